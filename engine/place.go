package engine

import (
	"math"
	"strings"

	"tedder/assoc"
	"tedder/value"
)

// place is where a value is, and another one can be put. Both calls end the run and answer false at a fault.
type place interface {
	get(e *Engine) (value.Value, bool)
	put(e *Engine, v value.Value) bool
}

// variable is a global one.
type variable struct {
	value value.Value
}

func (v *variable) get(*Engine) (value.Value, bool) { return v.value, true }

func (v *variable) put(_ *Engine, x value.Value) bool {
	v.value = x
	return true
}

// local is a function's parameter, which lies on the stack.
type local struct {
	phase *phase
	at    int
}

func (l local) get(*Engine) (value.Value, bool) { return l.phase.stack[l.at].(value.Value), true }

func (l local) put(_ *Engine, v value.Value) bool {
	l.phase.stack[l.at] = v
	return true
}

// element is a key of an array. To ask what is there makes no key.
type element struct {
	array *assoc.Array
	key   string
}

func (l element) get(*Engine) (value.Value, bool) { return l.array.Get(l.key), true }

func (l element) put(_ *Engine, v value.Value) bool {
	l.array.Put(l.key, v)
	return true
}

// fieldAt is the record's field of that number.
type fieldAt int

func (f fieldAt) get(e *Engine) (value.Value, bool) {
	s, ok := e.record.Get(int(f))
	if !ok {
		return nil, e.fail("field")
	}
	if f > 0 {
		// A copy, so that a short field doesn't keep a long line in memory.
		s = strings.Clone(s)
	}
	return value.Outside(s), true
}

func (f fieldAt) put(e *Engine, v value.Value) bool {
	s, ok := e.text(v)
	if !ok {
		return false
	}
	if f == 0 {
		return e.read(s)
	}
	i := int(f)
	return e.remake(max(i, e.record.NF()), func(ofs string) bool { return e.record.Set(i, s, ofs) })
}

// fieldCount is NF.
type fieldCount struct{}

func (fieldCount) get(e *Engine) (value.Value, bool) {
	return num(float64(e.record.NF())), true
}

func (fieldCount) put(e *Engine, v value.Value) bool {
	n := fieldNumber(v)
	return e.remake(n, func(ofs string) bool { return e.record.SetNF(n, ofs) })
}

// fieldNumber gives a value's number, cut, as that of a field; -1, where no record could have one.
func fieldNumber(v value.Value) int {
	x := math.Trunc(value.Number(v))
	// What is no number is in no range.
	if x >= 0 && x <= math.MaxInt32 {
		return int(x)
	}
	return -1
}
