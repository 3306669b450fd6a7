package dec

import (
	"math"
	"math/big"
	"regexp"
	"strconv"
	"strings"
	"testing"

	"tedder/sample"
)

// same tells whether x and y are one number, with its sign; all that is no number is one.
func same(x, y float64) bool {
	return math.Float64bits(x) == math.Float64bits(y) || x != x && y != y
}

// read is a text, and what Prefix and Looks answer of it.
type read struct {
	text  string
	value float64
	size  int
	looks bool
}

func checkRead(t *testing.T, cases []read) {
	t.Helper()
	for _, c := range cases {
		if x, n := Prefix(c.text); !same(x, c.value) || n != c.size {
			t.Errorf("Prefix(%.60q) is %v, %d, not %v, %d", c.text, x, n, c.value, c.size)
		}
		if got := Looks(c.text); got != c.looks {
			t.Errorf("Looks(%.60q) is %v", c.text, got)
		}
	}
}

// negZero gives 0 with the sign -.
func negZero() float64 {
	return math.Copysign(0, -1)
}

// P2.1: numerals with and without a point, signs and powers, and what is behind them.
func TestNumerals(t *testing.T) {
	checkRead(t, []read{
		{"0", 0, 1, true},
		{"12", 12, 2, true},
		{"007", 7, 3, true},
		{"12.5", 12.5, 4, true},
		{"12.", 12, 3, true},
		{".5", .5, 2, true},
		{"+12", 12, 3, true},
		{"-12", -12, 3, true},
		{"-.5", -.5, 3, true},
		{"+7.", 7, 3, true},
		{"1e3", 1000, 3, true},
		{"1E3", 1000, 3, true},
		{"1e+3", 1000, 4, true},
		{"1e-3", .001, 4, true},
		{"1.e2", 100, 4, true},
		{".1e2", 10, 4, true},
		{"-1.5E+02", -150, 8, true},
		{"1e0003", 1000, 6, true},
		{"1e-0", 1, 4, true},
		{"-0", negZero(), 2, true},
		{"-0.0e9", negZero(), 6, true},
		{"+0", 0, 2, true},
	})
}

// P2.1: the longest numeral is read, no more.
func TestLongestNumeral(t *testing.T) {
	checkRead(t, []read{
		{"1e", 1, 1, false},
		{"1e+", 1, 1, false},
		{"1e-x", 1, 1, false},
		{"1e.5", 1, 1, false},
		{"1e+-5", 1, 1, false},
		{"1ee5", 1, 1, false},
		{"1e5e5", 1e5, 3, false},
		{"1e5.5", 1e5, 3, false},
		{"1.5.2", 1.5, 3, false},
		{"1..2", 1, 2, false},
		{"1.e", 1, 2, false},
		{"12x", 12, 2, false},
		{"0x10", 0, 1, false},
		{"0b1", 0, 1, false},
		{"1_000", 1, 1, false},
		{"1,5", 1, 1, false},
		{"1-2", 1, 1, false},
		{"1p4", 1, 1, false},
		{"1\x00", 1, 1, false},
		{"1\xff", 1, 1, false},
		{"1e\u0663", 1, 1, false},
	})
}

// P2.1: blanks are bytes 32, 9 and 10, no others; ahead of a numeral, and for Looks behind it.
func TestBlanks(t *testing.T) {
	checkRead(t, []read{
		{" 1", 1, 2, true},
		{" \t\n 1.5", 1.5, 7, true},
		{" 12.5e1x", 125, 7, false},
		{"1 ", 1, 1, true},
		{" 1 \t\n", 1, 2, true},
		{"1 x", 1, 1, false},
		{"1 2", 1, 1, false},
		{"1 .", 1, 1, false},
		{"1 e5", 1, 1, false},
		{"1\r", 1, 1, false},
		{"\r1", 0, 0, false},
		{"\v1", 0, 0, false},
		{"\f1", 0, 0, false},
		{"\x001", 0, 0, false},
		{"\u00a01", 0, 0, false},
		{"- 1", 0, 0, false},
		{"1\v", 1, 1, false},
		{"1\f", 1, 1, false},
		{"1 \x00", 1, 1, false},
	})
}

// P2.1: of what begins with no numeral 0 and 0.
func TestNoNumerals(t *testing.T) {
	for _, s := range []string{"", " ", " \t\n", ".", "-", "+", "+.", "-.e1", " +.e1", "e", "e5", ".e5", "+-1", "--1", "x1", "inf", "-inf", "nan", "+nan", "Infinity", "$1", "\xff", "\u0661", "(1)"} {
		checkRead(t, []read{{s, 0, 0, false}})
	}
}

// P2.1: values are the nearest numbers, of two the one whose last bit is 0.
func TestRoundedNumerals(t *testing.T) {
	tiny := math.SmallestNonzeroFloat64
	for _, c := range []struct {
		text  string
		value float64
	}{
		{"0.1", 0.1},
		{"9007199254740991", 1<<53 - 1},
		{"9007199254740993", 1 << 53},
		{"9007199254740995", 1<<53 + 4},
		{"9007199254740993.00000000000000000000000001", 1<<53 + 2},
		{"9007199254740994.99999999999999999999999999", 1<<53 + 2},
		{"9007199254740993" + strings.Repeat("0", 3000) + "e-3000", 1 << 53},
		{"9007199254740993." + strings.Repeat("0", 3000), 1 << 53},
		{"9007199254740993." + strings.Repeat("0", 3000) + "1", 1<<53 + 2},
		{"9007199254740992." + strings.Repeat("9", 3000), 1 << 53},
		{"1.7976931348623157e308", math.MaxFloat64},
		{"1.7976931348623158e308", math.MaxFloat64},
		{"1.7976931348623159e308", math.Inf(1)},
		{"1e308", 1e308},
		{"1e309", math.Inf(1)},
		{"-1e309", math.Inf(-1)},
		{"-1.8e308", math.Inf(-1)},
		{"5e-324", tiny},
		{"-5e-324", -tiny},
		{"3e-324", tiny},
		{"2e-324", 0},
		{"-2e-324", negZero()},
		{"1e-400", 0},
		{"-1e-400", negZero()},
		{"2.2250738585072011e-308", 0x0.fffffffffffffp-1022},
		{"2.2250738585072014e-308", 0x1p-1022},
	} {
		checkRead(t, []read{{c.text, c.value, len(c.text), true}})
	}
}

// P2.1: long digits and long powers stand for what they say.
func TestLongNumerals(t *testing.T) {
	zeros := strings.Repeat("0", 2000000)
	for _, c := range []struct {
		text  string
		value float64
	}{
		{"1e99999999999999999999", math.Inf(1)},
		{"-1e99999999999999999999", math.Inf(-1)},
		{"1e-99999999999999999999", 0},
		{"-1e-99999999999999999999", negZero()},
		{"0e99999999999999999999", 0},
		{"-0e99999999999999999999", negZero()},
		{"1e18446744073709551617", math.Inf(1)},
		{"1e-18446744073709551617", 0},
		{"1" + zeros + "e-2000000", 1},
		{"-1" + zeros + "e-1999999", -10},
		{"0." + zeros + "1e2000001", 1},
		{"." + zeros + "25e2000002", 25},
		{zeros + "7", 7},
		{zeros, 0},
		{"-" + zeros + "." + zeros, negZero()},
		{"7." + zeros, 7},
		{"1e" + zeros + "2", 100},
		{"1e-" + zeros + "2", .01},
		{"1" + zeros, math.Inf(1)},
		{"." + zeros + "1", 0},
	} {
		checkRead(t, []read{{c.text, c.value, len(c.text), true}})
	}
}

// P2.1: of all small texts what an expression for numerals and exact fractions tell.
func TestSmallTexts(t *testing.T) {
	form := `[ \t\n]*[-+]?([0-9]+|[0-9]+\.[0-9]*|\.[0-9]+)([eE][-+]?[0-9]+)?`
	prefix := regexp.MustCompile(`^` + form)
	prefix.Longest()
	looks := regexp.MustCompile(`^` + form + `[ \t\n]*$`)
	for _, s := range append(sample.Texts("17.e+- ", 6), sample.Texts("0.E-\t\nx", 5)...) {
		numeral := prefix.FindString(s)
		x, n := Prefix(s)
		if n != len(numeral) || !same(x, plainValue(strings.Trim(numeral, " \t\n"))) {
			t.Errorf("Prefix(%q) is %v, %d", s, x, n)
		}
		if got, want := Looks(s), looks.MatchString(s); got != want {
			t.Errorf("Looks(%q) is %v", s, got)
		}
	}
}

// plainValue gives the nearest number to a numeral, from the fraction that it says.
func plainValue(numeral string) float64 {
	if numeral == "" {
		return 0
	}
	sign := 1.0
	if numeral[0] == '-' {
		sign = -1
	}
	digits, power := strings.ToLower(strings.TrimLeft(numeral, "+-")), 0
	if mantissa, e, ok := strings.Cut(digits, "e"); ok {
		digits = mantissa
		power, _ = strconv.Atoi(e)
	}
	whole, part, _ := strings.Cut(digits, ".")
	n, _ := new(big.Int).SetString("0"+whole+part, 10)
	x, _ := fraction(n, power-len(part)).Float64()
	return math.Copysign(x, sign)
}

// fraction gives n times a power of ten.
func fraction(n *big.Int, power int) *big.Rat {
	size := power
	if size < 0 {
		size = -size
	}
	ten := new(big.Int).Exp(big.NewInt(10), big.NewInt(int64(size)), nil)
	if power < 0 {
		return new(big.Rat).SetFrac(n, ten)
	}
	return new(big.Rat).SetInt(ten.Mul(ten, n))
}

// someNumbers gives numbers of all sizes, edges among them; none is an infinity or no number.
func someNumbers(count int) []float64 {
	l := []float64{0, 1, 2, 0.5, 1.5, 2.5, 0.1, 0.125, 0.375, 9.5, 99.5, 999999.5, 99999.95, 0.00009999995, 1e15, 1e16, 1e21, 1e22, 1e23, 1 << 53, 1 << 62, 1 << 63, math.MaxFloat64, math.SmallestNonzeroFloat64, 0x1p-1022, 0x0.fffffffffffffp-1022, 0x1.fffffffffffffp-1}
	for i, bits := range sample.Bits(count) {
		x := math.Float64frombits(bits)
		switch i % 3 {
		case 1:
			x = float64(bits%100000) / 64
		case 2:
			x = float64(bits%2000001) / 1000
		}
		if x == x && !math.IsInf(x, 0) {
			l = append(l, x)
		}
	}
	for _, x := range l {
		l = append(l, -x)
	}
	return l
}

// P2.1: exact texts of numbers, of the middles between two, and of what is beside the middles by a last digit.
func TestMiddles(t *testing.T) {
	for _, x := range someNumbers(600) {
		x = math.Abs(x)
		next := math.Nextafter(x, math.Inf(1))
		even := x
		if math.Float64bits(x)&1 == 1 {
			even = next
		}
		middle := exactText(x, next)
		checkValue(t, exactText(x, x), x)
		checkValue(t, middle, even)
		checkValue(t, middle+"1", next)
		checkValue(t, middle+strings.Repeat("0", 900)+"1", next)
		checkValue(t, justBelow(middle), x)
	}
}

// exactText gives all digits of the middle between x and y, and a point among them; of the infinity it takes 2^1024.
func exactText(x, y float64) string {
	sum := new(big.Float).SetPrec(3000).SetFloat64(x)
	if math.IsInf(y, 1) {
		sum.Add(sum, new(big.Float).SetMantExp(big.NewFloat(1), 1024))
	} else {
		sum.Add(sum, new(big.Float).SetFloat64(y))
	}
	return sum.Quo(sum, big.NewFloat(2)).Text('f', 1080)
}

// justBelow gives a numeral a little below that of a text whose value isn't 0.
func justBelow(text string) string {
	digits := strings.TrimRight(text, "0")
	if strings.HasSuffix(digits, ".") {
		n, _ := new(big.Int).SetString(strings.TrimSuffix(digits, "."), 10)
		return n.Sub(n, big.NewInt(1)).String() + "." + strings.Repeat("9", 900)
	}
	last := digits[len(digits)-1]
	return digits[:len(digits)-1] + string(rune(last-1)) + strings.Repeat("9", 900)
}

func checkValue(t *testing.T, text string, want float64) {
	t.Helper()
	if got, n := Prefix(text); got != want || n != len(text) {
		t.Errorf("Prefix(%q) is %v, %d, not %v, %d", text, got, n, want, len(text))
	}
	if got, _ := Prefix("-" + text); got != -want {
		t.Errorf("Prefix(-%q) is %v, not %v", text, got, -want)
	}
}

// P0: each reading ends and none panics at texts of any bytes and at long texts.
func TestReadingEnds(t *testing.T) {
	for c := range 256 {
		one := string([]byte{byte(c)})
		for _, s := range []string{one, "1" + one, one + "1", "1e" + one, "." + one, "1." + one, "-" + one, " " + one, "1 " + one} {
			x, n := Prefix(s)
			y, m := Prefix(s)
			if !same(x, y) || n != m || n < 0 || n > len(s) || n == 0 && !same(x, 0) || Looks(s) != Looks(s) {
				t.Errorf("Prefix(%q) is %v, %d and %v, %d", s, x, n, y, m)
			}
		}
	}
	for _, s := range []string{strings.Repeat("9", 1<<20), strings.Repeat(" ", 1<<20), strings.Repeat("1e", 1<<20), strings.Repeat("1.", 1<<20), strings.Repeat("+", 1<<20), "1e" + strings.Repeat("9", 1<<20), "1" + strings.Repeat(" ", 1<<20)} {
		Prefix(s)
		Looks(s)
	}
}
