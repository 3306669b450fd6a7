package assoc

import (
	"math"
	"slices"
	"testing"

	"tedder/api"
	"tedder/sample"
	"tedder/value"
)

func ofNum(x float64) value.Value { return value.Of(api.Val{Kind: "num", Num: x}) }
func ofStr(s string) value.Value  { return value.Of(api.Val{Kind: "str", Str: s}) }
func ofNone() value.Value         { return value.Of(api.Val{Kind: "none"}) }

// with gives an array with the keys, each with its place among them.
func with(keys ...string) *Array {
	a := New()
	for i, key := range keys {
		a.Put(key, ofNum(float64(i)))
	}
	return a
}

// checkValue asks for the value want at the key of a, by all that tells it.
func checkValue(t *testing.T, a *Array, key string, want api.Val, has bool) {
	t.Helper()
	v := a.Get(key)
	if v == nil {
		t.Errorf("Get(%q) is nil", key)
	}
	if got := value.Plain(v); got != want || a.Has(key) != has {
		t.Errorf("at %q is %v, %v, not %v, %v", key, got, a.Has(key), want, has)
	}
}

// checkKeys asks for these keys of a, in this order, and no others.
func checkKeys(t *testing.T, a *Array, want ...string) {
	t.Helper()
	if got := a.Keys(); !slices.Equal(got, want) || a.Len() != len(want) {
		t.Errorf("the keys are %q, %d, not %q", got, a.Len(), want)
	}
	for _, key := range want {
		if !a.Has(key) {
			t.Errorf("%q isn't there", key)
		}
	}
}

// P9.1: New: without keys; each one is another array.
func TestNew(t *testing.T) {
	a, b := New(), New()
	if a == nil || b == nil || a == b {
		t.Fatalf("%p, %p", a, b)
	}
	checkKeys(t, a)
	checkValue(t, a, "", api.Val{Kind: "none"}, false)
	a.Put("x", ofNum(1))
	checkKeys(t, a, "x")
	checkKeys(t, b)
}

// P9.1: Put and Get: what was put at a key last is there, of all kinds.
func TestPut(t *testing.T) {
	a := New()
	for i, c := range []struct {
		v    value.Value
		want api.Val
	}{
		{ofNum(1.5), api.Val{Kind: "num", Num: 1.5}},
		{ofNum(0), api.Val{Kind: "num"}},
		{ofNum(math.Inf(-1)), api.Val{Kind: "num", Num: math.Inf(-1)}},
		{ofStr("x"), api.Val{Kind: "str", Str: "x"}},
		{ofStr(""), api.Val{Kind: "str"}},
		{ofStr("10"), api.Val{Kind: "str", Str: "10"}},
		{value.Outside(" 10 "), api.Val{Kind: "both", Num: 10, Str: " 10 "}},
		{value.Outside("a\x00\xff"), api.Val{Kind: "str", Str: "a\x00\xff"}},
		{ofNone(), api.Val{Kind: "none"}},
		{nil, api.Val{Kind: "none"}},
		{ofNum(2), api.Val{Kind: "num", Num: 2}},
	} {
		a.Put("k", c.v)
		checkValue(t, a, "k", c.want, true)
		checkKeys(t, a, "k")
		key := string([]byte{'n', byte(i)})
		b := New()
		b.Put(key, c.v)
		checkValue(t, b, key, c.want, true)
		checkKeys(t, b, key)
	}
	a.Put("k", ofNum(math.NaN()))
	if got := value.Number(a.Get("k")); !math.IsNaN(got) {
		t.Errorf("%v, not what is no number", got)
	}
	a.Put("k", ofNum(math.Copysign(0, -1)))
	if got := value.Number(a.Get("k")); got != 0 || !math.Signbit(got) {
		t.Errorf("%v, not -0", got)
	}
}

// P9.1: a nil that is put is None, and its key is there.
func TestPutNil(t *testing.T) {
	a := New()
	a.Put("new", nil)
	checkValue(t, a, "new", api.Val{Kind: "none"}, true)
	a.Put("old", ofNum(3))
	a.Put("old", nil)
	checkValue(t, a, "old", api.Val{Kind: "none"}, true)
	checkKeys(t, a, "new", "old")
}

// Embedded in a type of another package, a Value makes that type one, too.
type foreign struct{ value.Value }

// P9.1, P0: a value of a type of another package is kept as it is.
func TestPutForeign(t *testing.T) {
	a := New()
	for _, v := range []value.Value{foreign{}, foreign{ofNum(5)}, &foreign{}, (*foreign)(nil)} {
		a.Put("k", v)
		if a.Get("k") != v {
			t.Errorf("%v, not %v", a.Get("k"), v)
		}
		checkValue(t, a, "k", api.Val{Kind: "none"}, true)
	}
}

// P9.1: each key has a value of its own: keys that are nearly one, too, and the empty one.
func TestKeysApart(t *testing.T) {
	keys := []string{"", " ", "0", "00", "-0", "+0", "0.0", "1", "1 ", " 1", "1.0", "1e0", "a", "A", "aa", "a\x00", "\x00", "\x00\x00", "a\x1cb", "a\x1c", "\x1cb", "ab", "\u00e9", "e\u0301", "\xe9", "\xff", "\ufffd", "\n"}
	a := with(keys...)
	for i, key := range keys {
		checkValue(t, a, key, api.Val{Kind: "num", Num: float64(i)}, true)
	}
	for _, key := range []string{"  ", "000", "1e1", "b", "aaa", "a\x00\x00", "\xc3", "\xfe", "N"} {
		checkValue(t, a, key, api.Val{Kind: "none"}, false)
	}
	if a.Len() != len(keys) {
		t.Errorf("%d keys, not %d", a.Len(), len(keys))
	}
}

// P9.1: Get and Has make no key.
func TestNoKeyIsMade(t *testing.T) {
	for _, a := range []*Array{New(), with("a"), with("a").Copy(), {}} {
		want := a.Keys()
		for _, key := range []string{"", "b", "zz", "a "} {
			checkValue(t, a, key, api.Val{Kind: "none"}, false)
		}
		checkKeys(t, a, want...)
	}
}

// P9.1: Delete takes one key away, and does nothing where there is none.
func TestDelete(t *testing.T) {
	a := with("b", "", "a", "c")
	a.Delete("a")
	checkKeys(t, a, "", "b", "c")
	checkValue(t, a, "a", api.Val{Kind: "none"}, false)
	checkValue(t, a, "b", api.Val{Kind: "num"}, true)
	a.Delete("a")
	a.Delete("x")
	checkKeys(t, a, "", "b", "c")
	a.Delete("")
	checkKeys(t, a, "b", "c")
	a.Put("a", ofStr("again"))
	checkValue(t, a, "a", api.Val{Kind: "str", Str: "again"}, true)
	for _, key := range a.Keys() {
		a.Delete(key)
	}
	checkKeys(t, a)
	a.Delete("a")
	New().Delete("a")
	a.Put("z", nil)
	a.Delete("z")
	checkKeys(t, a)
}

// P9.1: Clear takes all keys away; others can be put there behind it.
func TestClear(t *testing.T) {
	a := with("b", "a")
	a.Clear()
	checkKeys(t, a)
	checkValue(t, a, "a", api.Val{Kind: "none"}, false)
	a.Clear()
	a.Delete("a")
	checkKeys(t, a)
	a.Put("c", ofNum(7))
	checkKeys(t, a, "c")
	checkValue(t, a, "c", api.Val{Kind: "num", Num: 7}, true)
	New().Clear()
}

// P9.1: Keys rise by their bytes: not by numbers, nor by letters.
func TestKeysRise(t *testing.T) {
	for _, want := range [][]string{
		{"a", "b"},
		{"", "\x00", "\x00\x00", "\x00a", " ", "-1", "0", "1", "10", "2", "9", "A", "B", "a", "aa", "ab", "b", "\x7f", "\x80", "\xc3", "\u00e9", "\u00ff", "\u0100", "\uffff", "\U00010000", "\xff", "\xff\x00", "\xff\xff"},
	} {
		checkKeys(t, with(want...), want...)
		falling := slices.Clone(want)
		slices.Reverse(falling)
		checkKeys(t, with(falling...), want...)
	}
	bytes := sample.AllBytes()
	a, want := New(), []string{}
	for i := range len(bytes) {
		a.Put(bytes[255-i:256-i], nil)
		want = append(want, bytes[i:i+1])
	}
	checkKeys(t, a, want...)
}

// P9.1: Copy: later changes of one array aren't the other's.
func TestCopy(t *testing.T) {
	a := with("a", "b", "c")
	a.Put("none", nil)
	b := a.Copy()
	if a == b {
		t.Fatal("the same array")
	}
	checkKeys(t, b, "a", "b", "c", "none")
	checkValue(t, b, "b", api.Val{Kind: "num", Num: 1}, true)
	checkValue(t, b, "none", api.Val{Kind: "none"}, true)

	a.Put("b", ofStr("other"))
	a.Put("d", nil)
	a.Delete("a")
	checkKeys(t, b, "a", "b", "c", "none")
	checkValue(t, b, "b", api.Val{Kind: "num", Num: 1}, true)

	c := b.Copy()
	b.Put("c", ofNum(9))
	b.Put("e", nil)
	b.Delete("b")
	checkKeys(t, a, "b", "c", "d", "none")
	checkValue(t, a, "b", api.Val{Kind: "str", Str: "other"}, true)
	checkValue(t, a, "c", api.Val{Kind: "num", Num: 2}, true)

	b.Clear()
	checkKeys(t, a, "b", "c", "d", "none")
	checkKeys(t, c, "a", "b", "c", "none")
	checkValue(t, c, "c", api.Val{Kind: "num", Num: 2}, true)
	a.Clear()
	checkKeys(t, c, "a", "b", "c", "none")
}

// P9.1: a Copy of an array without keys has none, and takes some.
func TestCopyOfEmpty(t *testing.T) {
	emptied := with("a")
	emptied.Delete("a")
	cleared := with("a")
	cleared.Clear()
	for i, a := range []*Array{New(), {}, emptied, cleared, nil} {
		b := a.Copy()
		if b == nil || b == a || b == a.Copy() {
			t.Fatalf("%d: the copy is %p", i, b)
		}
		checkKeys(t, b)
		b.Put("x", ofNum(1))
		checkKeys(t, b, "x")
		checkValue(t, b, "x", api.Val{Kind: "num", Num: 1}, true)
		checkKeys(t, a)
		a.Put("y", nil)
		checkKeys(t, b, "x")
	}
}

// P9.1, P0, R2: a nil array has no keys, and nothing is put there.
func TestNilArray(t *testing.T) {
	var a *Array
	for range 2 {
		for _, key := range []string{"", "a"} {
			a.Put(key, ofNum(1))
			a.Put(key, nil)
			a.Delete(key)
			checkValue(t, a, key, api.Val{Kind: "none"}, false)
		}
		a.Clear()
		checkKeys(t, a)
	}
}

// P0: an array that New didn't make is one without keys.
func TestZeroArray(t *testing.T) {
	var a Array
	checkKeys(t, &a)
	checkValue(t, &a, "a", api.Val{Kind: "none"}, false)
	a.Delete("a")
	a.Clear()
	a.Put("a", ofNum(1))
	checkKeys(t, &a, "a")
	checkValue(t, &a, "a", api.Val{Kind: "num", Num: 1}, true)
}
