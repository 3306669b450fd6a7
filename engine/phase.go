package engine

import (
	"tedder/assoc"
	"tedder/value"
)

// phase is a machine with a stack: it does what is done of a program at its beginning, with a record, or at its end. On the stack lie values, arrays, places, keys and lists of keys, and, below what a function takes and lays there, its parameters.
type phase struct {
	*Engine
	ticks  int // that were used
	stack  []any
	frames []frame
	asked  *expression // the last one that doesn't stand in the program
}

// frame is a part that is being done: an item's, or, above it, one of a function that was called.
type frame struct {
	part   *part
	at     int // the step that is next
	bottom int // how many lie on the stack below what is the frame's
	answer value.Value
}

// keyList is keys that are still to be gone through.
type keyList struct {
	keys []string
}

// phase gives one of which nothing is done yet.
func (e *Engine) phase() *phase { return &phase{Engine: e} }

// run does a part; false, if the phase is at its end with it.
func (p *phase) run(whole *part) bool {
	p.frames = append(p.frames, frame{part: whole})
	for len(p.frames) > 0 {
		f := p.frame()
		s := &f.part.steps[f.at]
		f.at++
		if !s.act(p, s) {
			return false
		}
	}
	return true
}

// test does a part that leaves a value, and tells whether that is true; the second answer is false, if the phase is at its end with it.
func (p *phase) test(pattern *part) (bool, bool) {
	if !p.run(pattern) {
		return false, false
	}
	return value.True(p.value()), true
}

// rule does a rule, if it is to be done with this record; false, if the phase is at its end with it.
func (p *phase) rule(r *rule) bool {
	is, ok := true, true
	switch {
	case r.pattern != nil:
		is, ok = p.test(r.pattern)
	case r.from != nil:
		is, ok = p.within(r)
	}
	if !ok || !is {
		return ok
	}
	return p.run(r.block)
}

// within tells whether a range is on with this record; the second answer is false, if the phase is at its end.
func (p *phase) within(r *rule) (bool, bool) {
	if !r.on {
		is, ok := p.test(r.from)
		if !ok || !is {
			return false, ok
		}
	}
	last, ok := p.test(r.to)
	r.on = !last
	return true, ok
}

// frame gives the innermost one.
func (p *phase) frame() *frame { return &p.frames[len(p.frames)-1] }

// push lays something on the stack. It gives true, as what comes to something goes on.
func (p *phase) push(x any) bool {
	p.stack = append(p.stack, x)
	return true
}

// pop takes what lies topmost from the stack.
func (p *phase) pop() any {
	last := len(p.stack) - 1
	top := p.stack[last]
	p.cut(last)
	return top
}

// cut leaves so many on the stack.
func (p *phase) cut(count int) {
	// What nobody asks for any more isn't kept.
	clear(p.stack[count:])
	p.stack = p.stack[:count]
}

// What lies on the stack is of the kind that is asked for, as the code is sound.

// value takes a value from the stack.
func (p *phase) value() value.Value { return p.pop().(value.Value) }

// values takes so many values from the stack, the topmost last.
func (p *phase) values(count int) []value.Value {
	values := make([]value.Value, count)
	for i := count - 1; i >= 0; i-- {
		values[i] = p.value()
	}
	return values
}

// array takes an array from the stack.
func (p *phase) array() *assoc.Array { return p.pop().(*assoc.Array) }

// element takes an array and a key from the stack.
func (p *phase) element() element {
	key := p.pop().(string)
	return element{p.array(), key}
}

// place takes a place from the stack.
func (p *phase) place() place { return p.pop().(place) }
