package value

import (
	"math"
	"math/big"
	"testing"

	"tedder/api"
)

// mix is a call of Mix with numbers, and its answer.
type mix struct {
	op   string
	x, y float64
	want float64
	ok   bool
}

func checkMix(t *testing.T, cases []mix) {
	t.Helper()
	for _, c := range cases {
		want := api.Val{Kind: "none"}
		if c.ok {
			want = api.Val{Kind: "num", Num: c.want}
		}
		if got, ok := Mix(c.op, ofNum(c.x), ofNum(c.y)); !alike(Plain(got), want) || ok != c.ok {
			t.Errorf("Mix(%q, %v, %v) is %v, %v, not %v", c.op, c.x, c.y, Plain(got), ok, want)
		}
	}
}

// P8.1: sums, differences, products and quotients.
func TestMix(t *testing.T) {
	inf, nan := math.Inf(1), math.NaN()
	checkMix(t, []mix{
		{"+", 1, 2, 3, true},
		{"+", 0.1, 0.2, 0.30000000000000004, true},
		{"+", 1 << 53, 1, 1 << 53, true},
		{"+", math.MaxFloat64, math.MaxFloat64, inf, true},
		{"+", negZero(), negZero(), negZero(), true},
		{"+", inf, -inf, nan, true},
		{"-", 1, 2, -1, true},
		{"-", 2, 2, 0, true},
		{"-", inf, inf, nan, true},
		{"*", 3, 2, 6, true},
		{"*", 0.1, 3, 0.30000000000000004, true},
		{"*", -1, 0, negZero(), true},
		{"*", inf, 0, nan, true},
		{"*", 1e200, 1e200, inf, true},
		{"/", 1, 4, 0.25, true},
		{"/", -7, 2, -3.5, true},
		{"/", 1, 3, 1.0 / 3, true},
		{"/", 0, -5, negZero(), true},
		{"/", 1, inf, 0, true},
		{"/", inf, inf, nan, true},
		{"/", 1, nan, nan, true},
		{"/", 1, math.SmallestNonzeroFloat64, inf, true},
		{"/", 1, 0, 0, false},
		{"/", 1, negZero(), 0, false},
		{"/", 0, 0, 0, false},
		{"/", inf, 0, 0, false},
		{"/", nan, 0, 0, false},
		{"^", 2, 10, 1024, true},
		{"^", 2, 0.5, 0, false},
		{"^", 2, 1025, 0, false},
	})
}

// P8.1: what is left of a division has the sign of what was divided.
func TestMixRest(t *testing.T) {
	inf, nan := math.Inf(1), math.NaN()
	checkMix(t, []mix{
		{"%", 7, 3, 1, true},
		{"%", -7, 3, -1, true},
		{"%", 7, -3, 1, true},
		{"%", -7, -3, -1, true},
		{"%", 6, 3, 0, true},
		{"%", -6, 3, negZero(), true},
		{"%", 0, 3, 0, true},
		{"%", negZero(), 3, negZero(), true},
		{"%", 5.5, 2, 1.5, true},
		{"%", 0.3, 0.1, 0.09999999999999998, true},
		{"%", 2, 7, 2, true},
		{"%", 1e22, 7, 4, true},
		{"%", math.MaxFloat64, math.SmallestNonzeroFloat64, 0, true},
		{"%", 7, inf, 7, true},
		{"%", -7, -inf, -7, true},
		{"%", inf, 3, nan, true},
		{"%", -inf, 3, nan, true},
		{"%", inf, inf, nan, true},
		{"%", nan, 3, nan, true},
		{"%", 3, nan, nan, true},
		{"%", 7, 0, 0, false},
		{"%", 7, negZero(), 0, false},
		{"%", 0, 0, 0, false},
		{"%", inf, 0, 0, false},
		{"%", nan, 0, 0, false},
	})
}

// P8.1: other ops make nothing.
func TestOtherOps(t *testing.T) {
	for _, op := range []string{"", "x", "++", "**", "^^", "+ ", " +", "+=", "<", "=", "&&", "\x00", "\u00d7", "%%", "//"} {
		checkMix(t, []mix{{op, 1, 2, 0, false}, {op, 0, 0, 0, false}})
	}
}

// P8.1: Mix takes the numbers of values of all kinds.
func TestMixOfAllKinds(t *testing.T) {
	l := manyValues()
	for _, op := range []string{"+", "-", "*", "/", "%", "^", "x"} {
		for _, a := range l {
			for _, b := range l {
				got, ok := Mix(op, a, b)
				want, okToo := Mix(op, ofNum(Number(a)), ofNum(Number(b)))
				if !alike(Plain(got), Plain(want)) || ok != okToo {
					t.Errorf("Mix(%q, %v, %v) is %v, %v", op, Plain(a), Plain(b), Plain(got), ok)
				}
			}
		}
	}
	for i, c := range []struct {
		a, b Value
		want float64
	}{
		{nil, ofNone(), 0}, {ofStr("3x"), Outside(" 4 "), 7}, {ofStr("x"), Outside("-2"), -2}, {Outside("+5x"), ofNum(1), 6},
	} {
		if got, ok := Mix("+", c.a, c.b); !ok || !alike(Plain(got), api.Val{Kind: "num", Num: c.want}) {
			t.Errorf("%d: %v, %v", i, Plain(got), ok)
		}
	}
}

// exactly gives what the op makes of finite numbers, rounded once; the rest of a division has x's sign.
func exactly(op string, x, y float64) float64 {
	a, b := new(big.Rat).SetFloat64(x), new(big.Rat).SetFloat64(y)
	switch op {
	case "+":
		a.Add(a, b)
	case "-":
		a.Sub(a, b)
	case "*":
		a.Mul(a, b)
	case "/":
		a.Quo(a, b)
	case "%":
		quotient := new(big.Rat).Quo(a, b)
		whole := new(big.Int).Quo(quotient.Num(), quotient.Denom())
		a.Sub(a, b.Mul(b, new(big.Rat).SetInt(whole)))
		rest, _ := a.Float64()
		return math.Copysign(math.Abs(rest), x)
	}
	z, _ := a.Float64()
	return z
}

// P8.1: of finite numbers of all sizes what exact fractions tell, rounded once; rests are exact.
func TestMixOfManyNumbers(t *testing.T) {
	l := someNumbers(150)
	for _, x := range l {
		for _, y := range l {
			if math.IsInf(x, 0) || x != x || math.IsInf(y, 0) || y != y || y == 0 {
				continue
			}
			for _, op := range []string{"+", "-", "*", "/", "%"} {
				got, ok := Mix(op, ofNum(x), ofNum(y))
				want := exactly(op, x, y)
				if !ok || Plain(got).Num != want || op == "%" && !sameNumber(Plain(got).Num, want) {
					t.Errorf("Mix(%q, %v, %v) is %v, %v, not %v", op, x, y, Plain(got), ok, want)
				}
			}
		}
	}
}

// power is a call of Power, and its answer.
type power struct {
	x, y float64
	want float64
	ok   bool
}

// P8.1: Power, at whole powers up to the bound alone; Mix's ^ is the same.
func TestPower(t *testing.T) {
	inf, nan := math.Inf(1), math.NaN()
	for _, c := range []power{
		{2, 10, 1024, true},
		{2, 0, 1, true},
		{2, negZero(), 1, true},
		{2, 1, 2, true},
		{2, -1, 0.5, true},
		{2, -2, 0.25, true},
		{-2, 3, -8, true},
		{-2, -3, -0.125, true},
		{0, 0, 1, true},
		{0, 5, 0, true},
		{0, -1, inf, true},
		{negZero(), 1, negZero(), true},
		{negZero(), -1, -inf, true},
		{negZero(), -2, inf, true},
		{inf, 0, 1, true},
		{nan, 0, 1, true},
		{nan, 1, nan, true},
		{inf, 2, inf, true},
		{-inf, 3, -inf, true},
		{inf, -1, 0, true},
		{-inf, -1, negZero(), true},
		{1, 1024, 1, true},
		{2, 1023, 0x1p1023, true},
		{2, 1024, inf, true},
		{2, -1023, 0x1p-1023, true},
		{2, -1024, 0, true},
		{-2, 1024, inf, true},
		{0.5, 1024, 0x1p-1024, true},
		{0.5, -1024, inf, true},
		{-1, 1024, 1, true},
		{-1, 1023, -1, true},
		{1, 1025, 0, false},
		{1, -1025, 0, false},
		{1, 1024.5, 0, false},
		{1, 1e300, 0, false},
		{2, 0.5, 0, false},
		{4, -0.5, 0, false},
		{2, 1.0000000000000002, 0, false},
		{2, math.SmallestNonzeroFloat64, 0, false},
		{1, inf, 0, false},
		{1, -inf, 0, false},
		{1, nan, 0, false},
		{nan, 0.5, 0, false},
	} {
		if got, ok := Power(c.x, c.y); !sameNumber(got, c.want) || ok != c.ok {
			t.Errorf("Power(%v, %v) is %v, %v, not %v, %v", c.x, c.y, got, ok, c.want, c.ok)
		}
		checkMix(t, []mix{{"^", c.x, c.y, c.want, c.ok}})
	}
}

// plainPower multiplies from the left on; each product is rounded from an exact one.
func plainPower(x float64, times int) float64 {
	product := 1.0
	for range times {
		if product == 0 || math.IsInf(product, 0) {
			product *= x
			continue
		}
		product = math.Copysign(exactly("*", product, x), product*x)
	}
	return product
}

// P8.1: Power rounds each product, from the left on, and what is 1 over them once more.
func TestPowerRounds(t *testing.T) {
	differ := 0
	for _, x := range []float64{1.1, 0.9, -1.3, 3, 10, 1.0000001, math.Pi, -0.1, 7, 1e-5, 123456789} {
		for y := range 60 {
			want := plainPower(x, y)
			if got, ok := Power(x, float64(y)); !sameNumber(got, want) || !ok {
				t.Errorf("Power(%v, %d) is %v, %v, not %v", x, y, got, ok, want)
			}
			if y > 0 {
				if got, ok := Power(x, float64(-y)); !sameNumber(got, 1/want) || !ok {
					t.Errorf("Power(%v, %d) is %v, %v, not %v", x, -y, got, ok, 1/want)
				}
			}
			if want != math.Pow(x, float64(y)) {
				differ++
			}
		}
	}
	if differ == 0 {
		t.Error("the powers tell nothing of how they are rounded")
	}
}
