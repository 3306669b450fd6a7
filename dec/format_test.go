package dec

import (
	"math"
	"math/big"
	"strconv"
	"strings"
	"testing"

	"tedder/api"
	"tedder/sample"
)

// written is a call of Format, and its answer.
type written struct {
	x    float64
	verb byte
	prec int
	alt  bool
	want string
}

func checkWritten(t *testing.T, cases []written) {
	t.Helper()
	for _, c := range cases {
		if got := Format(c.x, c.verb, c.prec, c.alt); got != c.want {
			t.Errorf("Format(%v, %q, %d, %v) is %s, not %s", c.x, c.verb, c.prec, c.alt, got, c.want)
		}
	}
}

// P2.1: f and F, with the sign of -0, rounded to the even digit, with a point of alt.
func TestFormatF(t *testing.T) {
	checkWritten(t, []written{
		{1.5, 'f', 3, false, "1.500"},
		{1.5, 'F', 3, false, "1.500"},
		{-1.5, 'f', 1, false, "-1.5"},
		{0, 'f', 2, false, "0.00"},
		{negZero(), 'f', 2, false, "-0.00"},
		{negZero(), 'f', 0, false, "-0"},
		{negZero(), 'F', 0, true, "-0."},
		{-0.001, 'f', 2, false, "-0.00"},
		{0.5, 'f', 0, false, "0"},
		{1.5, 'f', 0, false, "2"},
		{2.5, 'f', 0, false, "2"},
		{-2.5, 'f', 0, false, "-2"},
		{3.5, 'f', 0, false, "4"},
		{0.125, 'f', 2, false, "0.12"},
		{0.375, 'f', 2, false, "0.38"},
		{0.15, 'f', 1, false, "0.1"},
		{0.25, 'f', 1, false, "0.2"},
		{0.35, 'f', 1, false, "0.3"},
		{9.995, 'f', 2, false, "9.99"},
		{99.5, 'f', 0, false, "100"},
		{2.5, 'f', 0, true, "2."},
		{2.5, 'f', 1, true, "2.5"},
		{1e22, 'f', 1, false, "10000000000000000000000.0"},
		{1e23, 'f', 0, false, "99999999999999991611392"},
		{0.1, 'f', 60, false, "0.100000000000000005551115123125782702118158340454101562500000"},
		{math.MaxFloat64, 'f', 0, false, "17976931348623157" + maxFloatRest},
		{math.SmallestNonzeroFloat64, 'f', 60, false, "0." + strings.Repeat("0", 60)},
	})
}

// maxFloatRest is what stands behind the first 17 digits of the greatest number.
const maxFloatRest = "0814527423731704356798070567525844996598917476803157260780028538760589558632766878171540458953514382464234321326889464182768467546703537516986049910576551282076245490090389328944075868508455133942304583236903222948165808559332123348274797826204144723168738177180919299881250404026184124858368"

// P2.1: e and E, of 0 and of powers of one to three digits, rounded to the even digit, with a point of alt.
func TestFormatE(t *testing.T) {
	checkWritten(t, []written{
		{12345.678, 'e', 2, false, "1.23e+04"},
		{12345.678, 'E', 2, false, "1.23E+04"},
		{-12345.678, 'e', 0, false, "-1e+04"},
		{-12345.678, 'e', 0, true, "-1.e+04"},
		{12345.678, 'E', 0, true, "1.E+04"},
		{12345.678, 'e', 1, true, "1.2e+04"},
		{0, 'e', 3, false, "0.000e+00"},
		{0, 'e', 0, false, "0e+00"},
		{0, 'E', 0, true, "0.E+00"},
		{negZero(), 'e', 1, false, "-0.0e+00"},
		{1, 'e', 6, false, "1.000000e+00"},
		{0.001, 'e', 1, false, "1.0e-03"},
		{1e100, 'e', 1, false, "1.0e+100"},
		{1e100, 'E', 1, false, "1.0E+100"},
		{1e-100, 'e', 0, false, "1e-100"},
		{2.5, 'e', 0, false, "2e+00"},
		{3.5, 'e', 0, false, "4e+00"},
		{-25, 'e', 0, false, "-2e+01"},
		{9.5, 'e', 0, false, "1e+01"},
		{8.5, 'e', 0, false, "8e+00"},
		{9.96, 'e', 1, false, "1.0e+01"},
		{0.09999, 'e', 2, false, "1.00e-01"},
		{math.MaxFloat64, 'e', 16, false, "1.7976931348623157e+308"},
		{math.SmallestNonzeroFloat64, 'e', 16, false, "4.9406564584124654e-324"},
		{0.5, 'e', 60, false, "5." + strings.Repeat("0", 60) + "e-01"},
	})
}

// P2.1: g and G, and where they change from f to e and back.
func TestFormatG(t *testing.T) {
	checkWritten(t, []written{
		{3.14159265, 'g', 6, false, "3.14159"},
		{0.1, 'g', 6, false, "0.1"},
		{100000, 'g', 6, false, "100000"},
		{999999, 'g', 6, false, "999999"},
		{999999.4, 'g', 6, false, "999999"},
		{999999.5, 'g', 6, false, "1e+06"},
		{1000000, 'g', 6, false, "1e+06"},
		{1234567, 'g', 6, false, "1.23457e+06"},
		{0.0001, 'g', 6, false, "0.0001"},
		{0.000012345, 'g', 6, false, "1.2345e-05"},
		{0.00001, 'g', 6, false, "1e-05"},
		{0.00009999994, 'g', 6, false, "9.99999e-05"},
		{0.00009999996, 'g', 6, false, "0.0001"},
		{0, 'g', 6, false, "0"},
		{negZero(), 'g', 6, false, "-0"},
		{0, 'g', 6, true, "0.00000"},
		{0, 'g', 1, true, "0."},
		{1, 'g', 0, false, "1"},
		{1, 'g', 0, true, "1."},
		{9.5, 'g', 0, false, "1e+01"},
		{10, 'g', 1, false, "1e+01"},
		{10, 'g', 1, true, "1.e+01"},
		{10, 'g', 2, false, "10"},
		{10, 'g', 2, true, "10."},
		{2.5, 'g', 1, false, "2"},
		{100, 'g', 4, true, "100.0"},
		{1e-7, 'G', 3, true, "1.00E-07"},
		{1e-7, 'G', 3, false, "1E-07"},
		{1e20, 'G', 6, false, "1E+20"},
		{1e20, 'g', 6, true, "1.00000e+20"},
		{1.5e20, 'g', 6, false, "1.5e+20"},
		{100, 'G', 6, false, "100"},
		{1e59, 'g', 60, false, "99999999999999997168788049560464200849936328366177157906432"},
		{1e60, 'g', 60, false, "999999999999999949387135297074018866963645011013410073083904"},
		{0x1p-13, 'g', 60, true, "0.000122070312500000000000000000000000000000000000000000000000000"},
	})
}

// P2.1: of the infinities and of what is no number, whatever the verb; and of another verb as g.
func TestFormatOfAllVerbs(t *testing.T) {
	for c := range 256 {
		for _, prec := range []int{math.MinInt, 0, 6, math.MaxInt} {
			for _, alt := range []bool{false, true} {
				verb := byte(c)
				checkWritten(t, []written{
					{math.Inf(1), verb, prec, alt, "inf"},
					{math.Inf(-1), verb, prec, alt, "-inf"},
					{math.NaN(), verb, prec, alt, "nan"},
					{math.Copysign(math.NaN(), -1), verb, prec, alt, "nan"},
				})
				if !strings.ContainsRune("fFeEgG", rune(c)) {
					checkWritten(t, []written{{123456789, verb, prec, alt, Format(123456789, 'g', prec, alt)}})
				}
			}
		}
	}
	checkWritten(t, []written{
		{1e20, 'd', 6, false, "1e+20"},
		{0.5, 0, 6, false, "0.5"},
		{1.25, 255, 2, false, "1.2"},
	})
}

// P2.1: a prec below 0 is 0, one above 60 is 60.
func TestFormatOfPrecOutOfBounds(t *testing.T) {
	for _, x := range []float64{0.1, -2.5, 1e100, 0} {
		for _, verb := range []byte("fFeEgGx") {
			for _, alt := range []bool{false, true} {
				least, most := Format(x, verb, 0, alt), Format(x, verb, api.MaxPrec, alt)
				checkWritten(t, []written{
					{x, verb, -1, alt, least},
					{x, verb, math.MinInt, alt, least},
					{x, verb, api.MaxPrec + 1, alt, most},
					{x, verb, math.MaxInt, alt, most},
				})
			}
		}
	}
	checkWritten(t, []written{
		{2.5, 'f', -1, false, "2"},
		{0.1, 'f', 99, false, "0.100000000000000005551115123125782702118158340454101562500000"},
		{0.1, 'e', 61, false, "1.000000000000000055511151231257827021181583404541015625000000e-01"},
		{0.1, 'f', 59, false, "0.10000000000000000555111512312578270211815834045410156250000"},
	})
}

// plainFormat reckons Format of a finite number with exact fractions, as the chapter says it.
func plainFormat(x float64, verb byte, prec int, alt bool) string {
	sign := ""
	if math.Signbit(x) {
		sign = "-"
	}
	exact := new(big.Rat).SetFloat64(math.Abs(x))
	switch verb {
	case 'f', 'F':
		return sign + plainF(exact, prec, alt)
	case 'e', 'E':
		digits, first := plainE(exact, prec, alt)
		return sign + digits + powerText(first, verb)
	}
	p := max(prec, 1)
	digits, first := plainE(exact, p-1, alt)
	power := powerText(first, verb-2)
	if first >= -4 && first < p {
		digits, power = plainF(exact, p-1-first, alt), ""
	}
	for !alt && strings.Contains(digits, ".") && (strings.HasSuffix(digits, "0") || strings.HasSuffix(digits, ".")) {
		digits = digits[:len(digits)-1]
	}
	return sign + digits + power
}

func plainF(exact *big.Rat, prec int, alt bool) string {
	digits := nearest(exact, prec).String()
	digits = strings.Repeat("0", max(0, prec+1-len(digits))) + digits
	return pointed(digits, len(digits)-prec, alt)
}

func plainE(exact *big.Rat, prec int, alt bool) (string, int) {
	if exact.Sign() == 0 {
		return pointed(strings.Repeat("0", prec+1), 1, alt), 0
	}
	// The first power at which the rounded digits are no more than they may be.
	first := -330
	digits := nearest(exact, prec-first).String()
	for len(digits) > prec+1 {
		first += max(1, len(digits)-prec-2)
		digits = nearest(exact, prec-first).String()
	}
	return pointed(digits, 1, alt), first
}

// pointed gives digits with a point behind the first whole of them.
func pointed(digits string, whole int, alt bool) string {
	if whole == len(digits) && !alt {
		return digits
	}
	return digits[:whole] + "." + digits[whole:]
}

func powerText(first int, e byte) string {
	sign, size := "+", first
	if first < 0 {
		sign, size = "-", -first
	}
	digits := strconv.Itoa(size)
	if len(digits) < 2 {
		digits = "0" + digits
	}
	return string(rune(e)) + sign + digits
}

// nearest gives the nearest integer to exact times a power of ten, of two the even one.
func nearest(exact *big.Rat, power int) *big.Int {
	scaled := new(big.Rat).Mul(exact, fraction(big.NewInt(1), power))
	doubled := new(big.Int).Mul(scaled.Num(), big.NewInt(2))
	n, rest := new(big.Int).QuoRem(doubled.Add(doubled, scaled.Denom()), new(big.Int).Mul(scaled.Denom(), big.NewInt(2)), new(big.Int))
	if rest.Sign() == 0 && n.Bit(0) == 1 {
		n.Sub(n, big.NewInt(1))
	}
	return n
}

// P2.1: of numbers of all sizes what exact fractions tell, with each verb.
func TestFormatOfManyNumbers(t *testing.T) {
	for i, x := range someNumbers(1500) {
		for _, verb := range []byte("feEgG") {
			for _, prec := range []int{0, 1, 6, i % 10, i % (api.MaxPrec + 1)} {
				alt := i%2 == 1
				if got, want := Format(x, verb, prec, alt), plainFormat(x, verb, prec, alt); got != want {
					t.Errorf("Format(%v, %q, %d, %v) is %s, not %s", x, verb, prec, alt, got, want)
				}
			}
		}
	}
}

// P2.1: of small fractions, many of which lie in the middle of two answers, what exact fractions tell.
func TestFormatOfMiddles(t *testing.T) {
	for n := range 2000 {
		for _, parts := range []float64{2, 8, 64} {
			x := float64(n) / parts
			for prec := range 4 {
				for _, verb := range []byte("feg") {
					if got, want := Format(x, verb, prec, false), plainFormat(x, verb, prec, false); got != want {
						t.Errorf("Format(%v, %q, %d, false) is %s, not %s", x, verb, prec, got, want)
					}
				}
			}
		}
	}
}

// P2.2: what e writes with 16 digits behind the point is read as that number.
func TestReadBack(t *testing.T) {
	for _, x := range someNumbers(100000) {
		for _, verb := range []byte("eE") {
			text := Format(x, verb, 16, false)
			if y, n := Prefix(text); !same(x, y) || n != len(text) || !Looks(text) {
				t.Fatalf("%s, written of %v, is read as %v, %d", text, x, y, n)
			}
		}
	}
}

// P2.1: Whole of integers below 2^63 in size, and of nothing else.
func TestWhole(t *testing.T) {
	for _, c := range []struct {
		x    float64
		want string
	}{
		{0, "0"},
		{negZero(), "0"},
		{1, "1"},
		{-1, "-1"},
		{-3, "-3"},
		{10, "10"},
		{1e15, "1000000000000000"},
		{1e18, "1000000000000000000"},
		{1 << 53, "9007199254740992"},
		{1 << 62, "4611686018427387904"},
		{-(1 << 62), "-4611686018427387904"},
		{1<<63 - 1024, "9223372036854774784"},
		{-(1<<63 - 1024), "-9223372036854774784"},
		{1 << 63, ""},
		{-(1 << 63), ""},
		{1<<63 + 2048, ""},
		{1e19, ""},
		{-1e300, ""},
		{math.MaxFloat64, ""},
		{math.Inf(1), ""},
		{math.Inf(-1), ""},
		{math.NaN(), ""},
		{0.5, ""},
		{-0.5, ""},
		{1.0000000000000002, ""},
		{1<<52 + 0.5 - 1, ""},
		{math.SmallestNonzeroFloat64, ""},
	} {
		if got, ok := Whole(c.x); got != c.want || ok != (c.want != "") {
			t.Errorf("Whole(%v) is %q, %v, not %q", c.x, got, ok, c.want)
		}
	}
}

// P2.1: Whole of numbers of all sizes is what big integers tell.
func TestWholeOfManyNumbers(t *testing.T) {
	bound := new(big.Int).Lsh(big.NewInt(1), 63)
	for i, bits := range sample.Bits(20000) {
		x := math.Ldexp(float64(int64(bits)>>11), i%80-60)
		exact := new(big.Rat).SetFloat64(x)
		want := ""
		if exact.IsInt() && exact.Num().CmpAbs(bound) < 0 {
			want = exact.Num().String()
		}
		if got, ok := Whole(x); got != want || ok != (want != "") {
			t.Errorf("Whole(%v) is %q, %v, not %q", x, got, ok, want)
		}
	}
}

// P0: each writing ends and none panics, and the same call answers the same.
func TestWritingEnds(t *testing.T) {
	for _, bits := range sample.Bits(2000) {
		x := math.Float64frombits(bits)
		for _, prec := range []int{math.MinInt, -1, 0, 60, 61, math.MaxInt} {
			verb := byte(bits >> 20)
			if Format(x, verb, prec, true) != Format(x, verb, prec, true) {
				t.Errorf("Format(%v, %q, %d, true) answers two things", x, verb, prec)
			}
		}
		a, _ := Whole(x)
		b, _ := Whole(x)
		if a != b {
			t.Errorf("Whole(%v) answers two things", x)
		}
	}
}
