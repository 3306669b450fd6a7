package value

import (
	"math"
	"testing"

	"tedder/api"
)

// P8.1: Compare: as numbers where neither is a text alone, else as texts.
func TestCompare(t *testing.T) {
	for i, c := range []struct {
		a, b Value
		want int
	}{
		{ofNum(10), ofNum(9), 1},
		{ofNum(-1), ofNum(0.5), -1},
		{ofNum(2), ofNum(2), 0},
		{ofNum(0), ofNum(negZero()), 0},
		{ofNum(math.Inf(1)), ofNum(math.MaxFloat64), 1},
		{ofNum(math.Inf(-1)), ofNum(-math.MaxFloat64), -1},
		{ofNum(math.Inf(1)), ofNum(math.Inf(1)), 0},
		{ofNum(math.NaN()), ofNum(1), 0},
		{ofNum(math.NaN()), ofNum(math.Inf(-1)), 0},
		{ofNum(math.NaN()), ofNum(math.NaN()), 0},
		{ofNum(math.NaN()), ofNone(), 0},
		{ofNum(math.NaN()), Outside("1"), 0},
		{Outside("10"), Outside("9"), 1},
		{Outside("10"), ofNum(9), 1},
		{Outside("1e1"), Outside("10.0"), 0},
		{Outside(" 10 "), ofNum(10), 0},
		{Outside("1e400"), ofNum(math.Inf(1)), 0},
		{Outside("x"), Outside("10"), 1},
		{Outside("x"), ofNum(10), 1},
		{Outside("+5x"), ofNum(3), -1},
		{Outside("10"), ofStr("9"), -1},
		{Outside("10.0"), ofStr("10"), 1},
		{ofStr("10"), ofNum(9), -1},
		{ofStr("10"), Outside("9"), -1},
		{ofStr("10"), ofStr("9"), -1},
		{ofStr("10"), ofNum(10), 0},
		{ofStr("10"), ofNum(10.5), -1},
		{ofStr("0.333333"), ofNum(1.0 / 3), 0},
		{ofStr("-0"), ofNum(negZero()), -1},
		{ofStr("0"), ofNum(negZero()), 0},
		{ofStr("inf"), ofNum(math.Inf(1)), 0},
		{ofStr("nan"), ofNum(math.NaN()), 0},
		{ofNone(), ofNone(), 0},
		{ofNone(), ofNum(0), 0},
		{ofNone(), ofNum(-1), 1},
		{ofNone(), Outside("0"), 0},
		{ofNone(), Outside("1"), -1},
		{ofNone(), ofStr(""), 0},
		{ofNone(), ofStr("a"), -1},
		{ofNone(), ofStr("0"), -1},
		{nil, nil, 0},
		{nil, ofNum(1), -1},
		{nil, ofStr(""), 0},
		{nil, ofStr("0"), -1},
		{ofStr("a"), ofStr("b"), -1},
		{ofStr("a"), ofStr("B"), 1},
		{ofStr("a"), ofStr("aa"), -1},
		{ofStr("a"), ofStr("a\x00"), -1},
		{ofStr("a"), ofStr("a"), 0},
		{ofStr("z"), ofStr("\x80"), -1},
		{ofStr("\xff"), ofStr("\u00e9"), 1},
		{ofStr("\xff"), ofStr("\U0001f600"), 1},
		{ofStr(""), Outside(""), 0},
		{Of(api.Val{Kind: "both", Str: "x"}), ofNum(0), 0},
		{Of(api.Val{Kind: "both", Str: "x"}), Of(api.Val{Kind: "both", Str: "a"}), 0},
		{Of(api.Val{Kind: "both", Str: "x"}), ofStr("a"), 1},
	} {
		if got, ok := Compare(c.a, c.b, "%.6g"); got != c.want || !ok {
			t.Errorf("%d: Compare(%v, %v) is %v, %v", i, Plain(c.a), Plain(c.b), got, ok)
		}
		if got, ok := Compare(c.b, c.a, "%.6g"); got != -c.want || !ok {
			t.Errorf("%d: Compare(%v, %v) is %v, %v", i, Plain(c.b), Plain(c.a), got, ok)
		}
	}
}

// P8.1: Compare: 0 and false where a text isn't made, and there alone.
func TestCompareWithoutFormat(t *testing.T) {
	for i, c := range []struct {
		a, b Value
		want int
		ok   bool
	}{
		{ofStr("a"), ofNum(0.5), 0, false},
		{ofStr(""), ofNum(0.5), 0, false},
		{ofStr("0.5"), ofNum(0.5), 0, false},
		{ofStr("a"), ofNum(math.NaN()), 0, false},
		{Outside("x"), ofNum(1e300), 0, false},
		{ofStr("a"), ofNum(5), 1, true},
		{ofStr("a"), Outside("0.5"), 1, true},
		{ofStr("a"), ofNone(), 1, true},
		{ofStr("a"), ofStr("b"), -1, true},
		{ofNum(0.5), ofNum(0.25), 1, true},
		{ofNum(0.5), Outside("0.5"), 0, true},
		{ofNum(0.5), ofNone(), 1, true},
	} {
		for _, conv := range []string{"%d", "", "%.6gx"} {
			if got, ok := Compare(c.a, c.b, conv); got != c.want || ok != c.ok {
				t.Errorf("%d: by %q %v, %v", i, conv, got, ok)
			}
			if got, ok := Compare(c.b, c.a, conv); got != -c.want || ok != c.ok {
				t.Errorf("%d: the other way round by %q %v, %v", i, conv, got, ok)
			}
		}
	}
	for conv, want := range map[string]int{"%.1f": 0, "%.2f": -1, "%.0f": 1} {
		if got, ok := Compare(ofStr("0.5"), ofNum(0.5), conv); got != want || !ok {
			t.Errorf("Compare by %q is %v, %v", conv, got, ok)
		}
	}
}

// P8.2: Compare is the same the other way round, of values of all kinds, and by no format, too.
func TestCompareBothWays(t *testing.T) {
	l := manyValues()
	for _, conv := range []string{"%.6g", "%.2f", "x"} {
		for _, a := range l {
			for _, b := range l {
				c, ok := Compare(a, b, conv)
				d, okToo := Compare(b, a, conv)
				if c != -d || ok != okToo || c < -1 || c > 1 || !ok && c != 0 {
					t.Errorf("Compare(%v, %v, %q) is %v, %v, but %v, %v the other way round", Plain(a), Plain(b), conv, c, ok, d, okToo)
				}
			}
		}
	}
}

// checkOrder asks that of any three values that compare in one way the first isn't above the third, if neither is above the second one.
func checkOrder(t *testing.T, l []Value) {
	t.Helper()
	level := func(a, b Value) int {
		c, ok := Compare(a, b, "%.6g")
		if !ok {
			t.Fatalf("Compare(%v, %v) is false", Plain(a), Plain(b))
		}
		return c
	}
	for _, a := range l {
		for _, b := range l {
			ab := level(a, b)
			if ab > 0 {
				continue
			}
			for _, c := range l {
				if bc := level(b, c); bc <= 0 && level(a, c) != min(ab, bc) {
					t.Errorf("%v, %v, %v don't go in order", Plain(a), Plain(b), Plain(c))
				}
			}
		}
	}
}

// P8.2: what compares as numbers goes in order, and so does what compares as texts.
func TestCompareInOrder(t *testing.T) {
	numbers := []Value{nil, ofNone()}
	texts := []Value{}
	for _, v := range manyValues() {
		switch p := Plain(v); {
		case p.Kind == "str":
			texts = append(texts, v)
		case p.Num == p.Num:
			numbers = append(numbers, v)
		}
	}
	checkOrder(t, numbers)
	checkOrder(t, texts)
}

// P8.1: texts compare as their bytes do.
func TestCompareBytes(t *testing.T) {
	for c := range 256 {
		for d := range 256 {
			s, u := string([]byte{byte(c)}), string([]byte{byte(d)})
			want := 0
			if c < d {
				want = -1
			} else if c > d {
				want = 1
			}
			if got, ok := Compare(ofStr("a"+s), ofStr("a"+u), ""); got != want || !ok {
				t.Errorf("Compare(%q, %q) is %v, %v", s, u, got, ok)
			}
		}
	}
}
