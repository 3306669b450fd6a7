package value

import (
	"math"
	"strings"
	"testing"

	"tedder/api"
	"tedder/dec"
	"tedder/sample"
)

// alike tells whether two Vals are one, with the signs of their numbers; all that is no number is one.
func alike(a, b api.Val) bool {
	return a.Kind == b.Kind && a.Str == b.Str && sameNumber(a.Num, b.Num)
}

// sameNumber tells whether x and y are one number, with its sign; all that is no number is one.
func sameNumber(x, y float64) bool {
	return math.Float64bits(x) == math.Float64bits(y) || x != x && y != y
}

func ofNum(x float64) Value { return Of(api.Val{Kind: "num", Num: x}) }
func ofStr(s string) Value  { return Of(api.Val{Kind: "str", Str: s}) }
func ofNone() Value         { return Of(api.Val{Kind: "none"}) }

// negZero gives 0 with the sign -.
func negZero() float64 { return math.Copysign(0, -1) }

// someNumbers gives numbers of all sizes, edges among them.
func someNumbers(count int) []float64 {
	l := []float64{0, negZero(), 1, -1, 2, 0.5, -2.5, 0.1, 3, 7, -7, 1e15, 1e16, 1e19, 1e22, 1 << 53, 1<<53 - 1, 1 << 63, -(1 << 63), 1024, 1025, math.MaxFloat64, -math.MaxFloat64, math.SmallestNonzeroFloat64, -math.SmallestNonzeroFloat64, 0x1p-1022, math.Inf(1), math.Inf(-1), math.NaN()}
	for i, bits := range sample.Bits(count) {
		switch i % 3 {
		case 0:
			l = append(l, math.Float64frombits(bits))
		case 1:
			l = append(l, float64(int64(bits)>>44)/64)
		case 2:
			l = append(l, float64(int64(bits)>>54))
		}
	}
	return l
}

// someTexts gives texts that look like numbers, and others.
func someTexts() []string {
	return []string{"", " ", "0", "-0", "+0.0", "00", "1", "10", "9", " 7 ", "\t7\n", "1e1", "10.0", "1e400", "-1e400", "1e-400", ".5", "5.", "+5x", "12x", "x", "x1", ".", "-", "e5", "1e", "0x10", "inf", "nan", "-nan", "1 2", "\v1", "1\r", "a", "A", "aa", "ab", "b", "\x00", "\x80", "\xff", "\u00e9", "1\xff", "a\x00"}
}

// manyValues gives values of all kinds.
func manyValues() []Value {
	l := []Value{nil, ofNone()}
	for _, x := range someNumbers(60) {
		l = append(l, ofNum(x))
	}
	for _, s := range someTexts() {
		l = append(l, ofStr(s), Outside(s), Of(api.Val{Kind: "both", Str: s}))
	}
	return l
}

// P8.1: Of and Plain: a value tells what was told of it, and nothing beside.
func TestOfAndPlain(t *testing.T) {
	for _, c := range []struct{ in, want api.Val }{
		{api.Val{}, api.Val{Kind: "none"}},
		{api.Val{Kind: "none"}, api.Val{Kind: "none"}},
		{api.Val{Kind: "none", Num: 2, Str: "x"}, api.Val{Kind: "none"}},
		{api.Val{Kind: "other", Num: 2, Str: "x"}, api.Val{Kind: "none"}},
		{api.Val{Kind: "Num", Num: 2}, api.Val{Kind: "none"}},
		{api.Val{Kind: "str ", Str: "x"}, api.Val{Kind: "none"}},
		{api.Val{Num: 2, Str: "2"}, api.Val{Kind: "none"}},
		{api.Val{Kind: "num", Num: 2.5}, api.Val{Kind: "num", Num: 2.5}},
		{api.Val{Kind: "num", Num: 2.5, Str: "x"}, api.Val{Kind: "num", Num: 2.5}},
		{api.Val{Kind: "num"}, api.Val{Kind: "num"}},
		{api.Val{Kind: "num", Num: negZero()}, api.Val{Kind: "num", Num: negZero()}},
		{api.Val{Kind: "num", Num: math.Inf(-1)}, api.Val{Kind: "num", Num: math.Inf(-1)}},
		{api.Val{Kind: "num", Num: math.NaN()}, api.Val{Kind: "num", Num: math.NaN()}},
		{api.Val{Kind: "str", Str: "x"}, api.Val{Kind: "str", Str: "x"}},
		{api.Val{Kind: "str", Str: "10"}, api.Val{Kind: "str", Str: "10"}},
		{api.Val{Kind: "str", Str: "10", Num: 3}, api.Val{Kind: "str", Str: "10"}},
		{api.Val{Kind: "str"}, api.Val{Kind: "str"}},
		{api.Val{Kind: "both", Str: " 1.5 "}, api.Val{Kind: "both", Num: 1.5, Str: " 1.5 "}},
		{api.Val{Kind: "both", Str: "-0", Num: 7}, api.Val{Kind: "both", Num: negZero(), Str: "-0"}},
		{api.Val{Kind: "both", Str: "12x", Num: 3}, api.Val{Kind: "both", Num: 12, Str: "12x"}},
		{api.Val{Kind: "both", Str: "x", Num: 3}, api.Val{Kind: "both", Str: "x"}},
		{api.Val{Kind: "both", Num: 3}, api.Val{Kind: "both"}},
		{api.Val{Kind: "both", Str: "1e999"}, api.Val{Kind: "both", Num: math.Inf(1), Str: "1e999"}},
	} {
		got := Plain(Of(c.in))
		if !alike(got, c.want) {
			t.Errorf("Of(%v) is %v", c.in, got)
		}
		if again := Plain(Of(got)); !alike(again, got) {
			t.Errorf("Of(%v) is %v", got, again)
		}
	}
	if got := Plain(nil); got != (api.Val{Kind: "none"}) {
		t.Errorf("Plain(nil) is %v", got)
	}
}

// P8.1: Outside: a text that looks like a number is both, another one is a text alone.
func TestOutside(t *testing.T) {
	for _, c := range []struct {
		text string
		want api.Val
	}{
		{"10", api.Val{Kind: "both", Num: 10, Str: "10"}},
		{" 7 ", api.Val{Kind: "both", Num: 7, Str: " 7 "}},
		{"\t+1e1\n", api.Val{Kind: "both", Num: 10, Str: "\t+1e1\n"}},
		{"-0.0", api.Val{Kind: "both", Num: negZero(), Str: "-0.0"}},
		{".5", api.Val{Kind: "both", Num: 0.5, Str: ".5"}},
		{"1e400", api.Val{Kind: "both", Num: math.Inf(1), Str: "1e400"}},
		{"", api.Val{Kind: "str"}},
		{" ", api.Val{Kind: "str", Str: " "}},
		{"+5x", api.Val{Kind: "str", Str: "+5x"}},
		{"1 2", api.Val{Kind: "str", Str: "1 2"}},
		{"0x10", api.Val{Kind: "str", Str: "0x10"}},
		{"inf", api.Val{Kind: "str", Str: "inf"}},
		{"nan", api.Val{Kind: "str", Str: "nan"}},
		{"1e", api.Val{Kind: "str", Str: "1e"}},
		{"1\r", api.Val{Kind: "str", Str: "1\r"}},
	} {
		if got := Plain(Outside(c.text)); !alike(got, c.want) {
			t.Errorf("Outside(%q) is %v", c.text, got)
		}
	}
	for _, s := range sample.Texts("17.e+- x", 5) {
		want := api.Val{Kind: "str", Str: s}
		if dec.Looks(s) {
			want.Kind = "both"
			want.Num, _ = dec.Prefix(s)
		}
		if got := Plain(Outside(s)); !alike(got, want) {
			t.Errorf("Outside(%q) is %v", s, got)
		}
	}
}

// P8.1: Number: of a text what it begins with, whether it looks like a number or not.
func TestNumber(t *testing.T) {
	for i, c := range []struct {
		v    Value
		want float64
	}{
		{nil, 0},
		{ofNone(), 0},
		{ofNum(2.5), 2.5},
		{ofNum(negZero()), negZero()},
		{ofNum(math.Inf(1)), math.Inf(1)},
		{ofNum(math.NaN()), math.NaN()},
		{ofStr(""), 0},
		{ofStr("x"), 0},
		{ofStr("12"), 12},
		{ofStr(" \t\n12.5e1x"), 125},
		{ofStr("-0x"), negZero()},
		{ofStr("1e999"), math.Inf(1)},
		{ofStr("inf"), 0},
		{Outside("+5x"), 5},
		{Outside(" 7 "), 7},
		{Outside("-0"), negZero()},
		{Of(api.Val{Kind: "both", Str: "3x", Num: 9}), 3},
		{Of(api.Val{Kind: "both", Str: "x", Num: 9}), 0},
	} {
		if got := Number(c.v); !sameNumber(got, c.want) {
			t.Errorf("%d: Number of %v is %v", i, Plain(c.v), got)
		}
	}
	for _, s := range sample.Texts("17.e+- x", 5) {
		want, _ := dec.Prefix(s)
		if got := Number(ofStr(s)); !sameNumber(got, want) {
			t.Errorf("Number of the text %q is %v", s, got)
		}
		if got := Number(Outside(s)); !sameNumber(got, want) {
			t.Errorf("Number of %q is %v", s, got)
		}
	}
}

// P8.1: True: of numbers, and of what looks like one, what isn't 0; of texts what isn't empty.
func TestTrue(t *testing.T) {
	for i, c := range []struct {
		v    Value
		want bool
	}{
		{nil, false},
		{ofNone(), false},
		{ofNum(0), false},
		{ofNum(negZero()), false},
		{ofNum(1), true},
		{ofNum(-0.5), true},
		{ofNum(math.SmallestNonzeroFloat64), true},
		{ofNum(math.Inf(-1)), true},
		{ofNum(math.NaN()), true},
		{ofStr(""), false},
		{ofStr("0"), true},
		{ofStr(" "), true},
		{ofStr("x"), true},
		{ofStr("\x00"), true},
		{Outside(""), false},
		{Outside("0"), false},
		{Outside(" 0.0 "), false},
		{Outside("-0"), false},
		{Outside("1e-400"), false},
		{Outside("1"), true},
		{Outside("0x"), true},
		{Outside(" "), true},
		{Of(api.Val{Kind: "both", Str: "x", Num: 1}), false},
		{Of(api.Val{Kind: "both", Str: "2x"}), true},
		{Of(api.Val{Kind: "both", Num: 1}), false},
	} {
		if got := True(c.v); got != c.want {
			t.Errorf("%d: True of %v is %v", i, Plain(c.v), got)
		}
	}
}

// Embedded in a type of another package, a Value makes that type one, too.
type foreign struct{ Value }

// P8.1, P0: a type that is none of the four counts as none, whatever is in it.
func TestForeign(t *testing.T) {
	for i, v := range []Value{foreign{}, foreign{ofNum(5)}, foreign{ofStr("x")}, &foreign{ofStr("x")}, (*foreign)(nil), (*num)(nil), (*both)(nil), new(str)} {
		s, ok := Text(v, "x")
		if Plain(v) != (api.Val{Kind: "none"}) || Number(v) != 0 || s != "" || !ok || True(v) {
			t.Errorf("%d: %v, %v, %q, %v", i, Plain(v), Number(v), s, True(v))
		}
		if c, ok := Compare(v, ofNone(), "x"); c != 0 || !ok {
			t.Errorf("%d: Compare with none is %v, %v", i, c, ok)
		}
		if c, ok := Compare(v, ofStr("x"), "x"); c != -1 || !ok {
			t.Errorf("%d: Compare with a text is %v, %v", i, c, ok)
		}
		if got, ok := Mix("+", v, ofNum(2)); !ok || Number(got) != 2 {
			t.Errorf("%d: Mix is %v, %v", i, Plain(got), ok)
		}
	}
}

// P0, R7: each call ends, and answers the same again, of values of all kinds and of long texts.
func TestEnds(t *testing.T) {
	values := manyValues()
	for _, s := range []string{strings.Repeat("9", 1<<18), strings.Repeat(" ", 1<<18), strings.Repeat("1e", 1<<17), "1e" + strings.Repeat("9", 1<<18), sample.AllBytes()} {
		values = append(values, ofStr(s), Outside(s))
	}
	for _, a := range values {
		if !alike(Plain(a), Plain(a)) || !sameNumber(Number(a), Number(a)) || True(a) != True(a) || !alike(Plain(Of(Plain(a))), Plain(a)) {
			t.Errorf("of %.60q two answers", Plain(a).Str)
		}
		for _, conv := range []string{"", "%", "%.6g", "%d", strings.Repeat("%", 100)} {
			s, ok := Text(a, conv)
			again, okAgain := Text(a, conv)
			if s != again || ok != okAgain || !ok && s != "" {
				t.Errorf("Text of %.60q by %.60q is %.60q, %v, then %.60q, %v", Plain(a).Str, conv, s, ok, again, okAgain)
			}
		}
	}
}
