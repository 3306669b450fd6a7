package spell

import (
	"math"
	"strconv"
	"strings"
	"testing"

	"tedder/api"
	"tedder/value"
)

var inf, nan = math.Inf(1), math.NaN()

func num(x float64) value.Value           { return value.Of(api.Val{Kind: "num", Num: x}) }
func str(s string) value.Value            { return value.Of(api.Val{Kind: "str", Str: s}) }
func both(s string) value.Value           { return value.Of(api.Val{Kind: "both", Str: s}) }
func list(l ...value.Value) []value.Value { return l }

// numbers gives values of numbers.
func numbers(l ...float64) []value.Value {
	var values []value.Value
	for _, x := range l {
		values = append(values, num(x))
	}
	return values
}

// checkSpell asks for a text, with as much room as that needs, and that there is no answer with less.
func checkSpell(t *testing.T, format string, args []value.Value, conv, want string) {
	t.Helper()
	for _, most := range []int{len(want), len(want) + 1, math.MaxInt} {
		if got, ok := Spell(format, args, conv, most); got != want || !ok {
			t.Errorf("%.60q, at most %d: %.60q, %v, not %.60q", format, most, got, ok, want)
		}
	}
	for _, most := range []int{len(want) - 1, len(want) / 2, 0, -1, math.MinInt} {
		if most < len(want) {
			checkNone(t, format, args, conv, most)
		}
	}
}

// checkNone asks that there is no text.
func checkNone(t *testing.T, format string, args []value.Value, conv string, most int) {
	t.Helper()
	if got, ok := Spell(format, args, conv, most); got != "" || ok {
		t.Errorf("%.60q, at most %d: %.60q, %v", format, most, got, ok)
	}
}

// one is a number, a conversion, and what comes of it.
type one struct {
	format string
	x      float64
	want   string
}

func checkOnes(t *testing.T, cases []one) {
	t.Helper()
	for _, c := range cases {
		checkSpell(t, c.format, numbers(c.x), "%.6g", c.want)
	}
}

// P12.1: what is no conversion stays as it is; %% is %, and takes no argument.
func TestPlainText(t *testing.T) {
	for format, want := range map[string]string{
		"":               "",
		"x":              "x",
		"d - + 0 # * .":  "d - + 0 # * .",
		"%%":             "%",
		"%%%%":           "%%",
		"100%%":          "100%",
		"%%d":            "%d",
		"%%%%s":          "%%s",
		"a%%b%%":         "a%b%",
		"a\x00b\n\xff%%": "a\x00b\n\xff%",
		"\u00e9":         "\u00e9",
		`\n`:             `\n`,
	} {
		checkSpell(t, format, nil, "%.6g", want)
		checkSpell(t, format, list(), "", want)
		checkSpell(t, format, list(num(1), nil), "x", want)
	}
	checkSpell(t, "%%%d%%", numbers(5), "", "%5%")
}

// P12.1: arguments are taken one by one, those of the stars first; what is left over plays no part.
func TestArguments(t *testing.T) {
	for _, c := range []struct {
		format string
		args   []value.Value
		want   string
	}{
		{"%03d|%-3s|%c", list(num(7), str("a"), num(65)), "007|a  |A"},
		{"%d %i", list(num(-3.9), str("12x")), "-3 12"},
		{"%s%s%s", list(str("a"), str("b"), str("c")), "abc"},
		{"%s", list(str("a"), str("b")), "a"},
		{"%d", list(num(1), nil), "1"},
		{"x%%", list(num(0.5)), "x%"},
		{"%*d%d", numbers(3, 1, 2), "  12"},
		{"%.*f %s", list(num(1), num(2.25), str("z")), "2.2 z"},
		{"%*.*f|", numbers(6, 1, 2.75), "   2.8|"},
		{"%*.*f|", numbers(-6, 1, 2.75), "2.8   |"},
		{"%*.*f|", numbers(9, -1, 2.75), " 2.750000|"},
		{"%*.2f|", numbers(6, 2.75), "  2.75|"},
		{"%6.*f|", numbers(0, 2.75), "     3|"},
		{"%*s%*s", list(num(2), str("a"), num(-2), str("b")), " ab "},
		{"%*c|%.*s|", list(str("3x"), num(65), both("1"), str("bc")), "  A|b|"},
		{"%s|%d|%c|%x|%g|%5s|%.0f", list(nil, nil, nil, nil, nil, nil, nil), "|0||0|0|     |0"},
		{"%*d|%.*d|%*.*s", list(nil, num(5), value.Of(api.Val{}), num(6), nil, nil, str("x")), "5|6|"},
		{"%*s", list(num(2.9), str("a")), " a"},
		{"%*s|", list(num(-2.9), str("a")), "a |"},
		{"%*s|", list(num(-0.9), str("a")), "a|"},
		{"%*s|", list(num(200.9), str("a")), strings.Repeat(" ", 199) + "a|"},
		{"%*s|", list(num(-200.9), str("a")), "a" + strings.Repeat(" ", 199) + "|"},
		{"%.*f", numbers(60.9, 0), "0." + strings.Repeat("0", 60)},
		{"%.*f", numbers(-0.9, 2.75), "3"},
		{"%.*f", numbers(-1e300, 2.75), "2.750000"},
		{"%.*f", numbers(-inf, 2.75), "2.750000"},
		{"%.*d", numbers(-1, 0), "0"},
		{"%0*.*d", numbers(4, -1, 7), "0007"},
		{"%0*.*d", numbers(4, 1, 7), "   7"},
		{"%0*d|", numbers(-4, 7), "7   |"},
		{"%.*s", list(num(-1), str("abc")), "abc"},
		{"%.*s", list(num(0), str("abc")), ""},
	} {
		checkSpell(t, c.format, c.args, "%.6g", c.want)
	}
}

// P12.1: where an argument is missing there is no text.
func TestMissingArguments(t *testing.T) {
	for format, count := range map[string]int{
		"%d": 1, "%s": 1, "%c": 1, "%f": 1, "%x": 1, "%d%d": 2, "%s %% %s": 2, "%*d": 2, "%.*d": 2, "%*.*d": 3, "%-0*.*g%c": 4, "%d%*d": 3, "%%%s": 1,
	} {
		for n := range count {
			checkNone(t, format, numbers(1, 1, 1, 1, 1)[:n], "%.6g", 1000)
		}
		if _, ok := Spell(format, numbers(1, 1, 1, 1, 1)[:count], "%.6g", 1000); !ok {
			t.Errorf("%q takes more than %d", format, count)
		}
	}
}

// P12.1: what isn't as a conversion is told is none.
func TestNoConversions(t *testing.T) {
	for _, format := range []string{
		"%", "a%", "%%%", "%5", "%-", "%.", "%.5", "%*", "%.*", "%5.2", "% ", "%y", "%D", "%S", "%C", "%U", "%O", "%I", "%a", "%p", "%n", "%v", "%q", "%b", "%t",
		"%ld", "%lld", "%hd", "%zu", "%Lf", "%5%", "%-%", "% %", "%.%", "%.0%", "%*%", "%0%", "%#%", "%+%",
		"%5-d", "%5+d", "%5 d", "%5#d", "%*5d", "%5*d", "%**d", "%*-d", "%*0d", "%.-1d", "%.+1d", "%. 1d", "%.#d", "%.*5d", "%.5*d", "%.**d", "%..5d", "%.5.5d", "%5.-d", "%,d", "%'d", "%1$d", "%!d", "%(d", "%\x00d", "%\nd", "%\xffd", "%\u00e9", "%\xb2d", "%-", "%+5.3",
	} {
		checkNone(t, format, numbers(1, 1, 1, 1), "%.6g", 1000)
		checkNone(t, "%d"+format, numbers(1, 1, 1, 1), "%.6g", 1000)
		checkNone(t, "x"+format, nil, "%.6g", 1000)
	}
	for c := range 256 {
		format := "%" + string([]byte{byte(c)})
		_, ok := Spell(format, numbers(1), "%.6g", 20)
		if ok != strings.Contains("dioxXueEfFgGcs%", format[1:]) {
			t.Errorf("%q is %v", format, ok)
		}
	}
}

// P12.1: widths and precisions up to their bounds, and none past them.
func TestBounds(t *testing.T) {
	checkSpell(t, "%200d", numbers(1), "", strings.Repeat(" ", 199)+"1")
	checkSpell(t, "%0200d", numbers(1), "", strings.Repeat("0", 199)+"1")
	checkSpell(t, "%-0000200s", list(str("a")), "", "a"+strings.Repeat(" ", 199))
	checkSpell(t, "%.60d", numbers(1), "", strings.Repeat("0", 59)+"1")
	checkSpell(t, "%.000000000000000000000060d", numbers(1), "", strings.Repeat("0", 59)+"1")
	checkSpell(t, "%.60f", numbers(1), "", "1."+strings.Repeat("0", 60))
	checkSpell(t, "%.60s", list(str(strings.Repeat("a", 99))), "", strings.Repeat("a", 60))
	checkSpell(t, "%060.3d", numbers(1), "", strings.Repeat(" ", 57)+"001")
	for _, letter := range strings.Split("dioxXueEfFgGcs", "") {
		for _, between := range []string{"201", "1000", "2000", "0201", "-201", "18446744073709551617", "18446744073709551816", "4294967297", strings.Repeat("9", 400), ".61", ".100", ".061", "5.61", "200.61", "201.60", ".18446744073709551616", ".18446744073709551617", ".4294967296", "." + strings.Repeat("9", 400)} {
			checkNone(t, "%"+between+letter, numbers(1), "%.6g", 100000)
		}
		for _, x := range []float64{201, -201, 201.5, -201.5, 1e9, -1e9, 1e300, -1e300, 1 << 32, 1 << 63, 1 << 64, -(1 << 63), inf, -inf, nan} {
			checkNone(t, "%*"+letter, numbers(x, 1), "%.6g", 100000)
		}
		for _, x := range []float64{61, 61.5, 200, 1e300, 1 << 32, 1 << 63, 1 << 64, inf, nan} {
			checkNone(t, "%.*"+letter, numbers(x, 1), "%.6g", 100000)
			checkNone(t, "%*.*"+letter, numbers(5, x, 1), "%.6g", 100000)
		}
	}
}

// P12.1: d and i: numbers cut, with signs, zeros and blanks.
func TestSigned(t *testing.T) {
	l := []one{
		{"%d", 0, "0"}, {"%d", math.Copysign(0, -1), "0"}, {"%d", 0.9, "0"}, {"%d", -0.9, "0"}, {"%d", -1, "-1"}, {"%d", 3.9, "3"}, {"%d", -3.9, "-3"},
		{"%d", 1 << 53, "9007199254740992"}, {"%d", 1 << 63, "9223372036854775808"}, {"%d", -(1 << 63), "-9223372036854775808"}, {"%d", 1e20, "100000000000000000000"}, {"%d", -1e23, "-99999999999999991611392"},
		{"%d", 5e-324, "0"}, {"%d", math.MaxFloat64, strconv.FormatFloat(math.MaxFloat64, 'f', 0, 64)},
		{"%+d", 1, "+1"}, {"%+d", 0, "+0"}, {"%+d", -0.5, "+0"}, {"%+d", -1, "-1"}, {"% d", 2, " 2"}, {"% d", -2, "-2"}, {"% d", -0.5, " 0"}, {"% +d", 2, "+2"}, {"%+ d", 2, "+2"}, {"%++  d", 2, "+2"},
		{"%.3d", 7, "007"}, {"%.3d", -7, "-007"}, {"%+.3d", 7, "+007"}, {"%.3d", 1234, "1234"}, {"%.0d", 0, "0"}, {"%.d", 0, "0"}, {"%.d", 12, "12"}, {"%.1d", -0.5, "0"}, {"%.2d", 0, "00"},
		{"%5d", 7, "    7"}, {"%5d", -7, "   -7"}, {"%1d", 77, "77"}, {"%5d", 123456, "123456"}, {"%-5d|", 7, "7    |"}, {"%-+5d|", 7, "+7   |"},
		{"%05d", 7, "00007"}, {"%05d", -7, "-0007"}, {"%+05d", 7, "+0007"}, {"% 05d", 7, " 0007"}, {"%0 5d", -7, "-0007"}, {"%-05d|", 7, "7    |"}, {"%0-5d|", 7, "7    |"}, {"%00005d", 7, "00007"}, {"%0d", 7, "7"}, {"%02d", -77, "-77"},
		{"%05.3d", 7, "  007"}, {"%05.3d", -7, " -007"}, {"%-05.3d|", 7, "007  |"}, {"%05.d", 7, "    7"}, {"%05.0d", 0, "    0"}, {"%+05.1d", 7, "   +7"}, {"%02.3d", 7, "007"},
		{"%#d", 7, "7"}, {"%#05d", 0, "00000"}, {"%#.2d", 7, "07"},
		{"%d", inf, "inf"}, {"%d", -inf, "-inf"}, {"%d", nan, "nan"}, {"%d", math.Copysign(nan, -1), "nan"}, {"%+d", inf, "+inf"}, {"%+d", nan, "+nan"}, {"% d", inf, " inf"}, {"% d", -inf, "-inf"},
		{"%.5d", inf, "inf"}, {"%.5d", nan, "nan"}, {"%.0d", -inf, "-inf"}, {"%05d", nan, "  nan"}, {"%06d", -inf, "  -inf"}, {"%06.1d", inf, "   inf"}, {"%-6d|", inf, "inf   |"}, {"%-06d|", inf, "inf   |"}, {"%+06d", inf, "  +inf"}, {"%#d", inf, "inf"},
	}
	checkOnes(t, l)
	for _, c := range l {
		checkOnes(t, []one{{strings.Replace(c.format, "d", "i", 1), c.x, c.want}})
	}
}

// P12.1: o, x, X and u: numbers cut, in their bases.
func TestUnsigned(t *testing.T) {
	checkOnes(t, []one{
		{"%o", 0, "0"}, {"%o", 8, "10"}, {"%o", 511.9, "777"}, {"%x", 0, "0"}, {"%x", 255, "ff"}, {"%X", 255, "FF"}, {"%x", 0xabcdef, "abcdef"}, {"%X", 0xabcdef, "ABCDEF"}, {"%x", 0x123456789, "123456789"}, {"%u", 0, "0"}, {"%u", 1 << 53, "9007199254740992"},
		{"%x", -0.9, "0"}, {"%o", -0.5, "0"}, {"%u", math.Copysign(0, -1), "0"}, {"%u", 3.99, "3"}, {"%u", 5e-324, "0"},
		{"%u", 1 << 63, "9223372036854775808"}, {"%x", 1 << 63, "8000000000000000"}, {"%u", 1<<64 - 2048, "18446744073709549568"}, {"%X", 1<<64 - 2048, "FFFFFFFFFFFFF800"}, {"%o", 1<<64 - 2048, "1777777777777777774000"},
		{"%#o", 8, "010"}, {"%#o", 0, "0"}, {"%#x", 255, "0xff"}, {"%#X", 255, "0XFF"}, {"%#x", 0, "0"}, {"%#X", 0.5, "0"}, {"%#u", 7, "7"}, {"%##x", 1, "0x1"},
		{"%.3o", 8, "010"}, {"%.3x", 10, "00a"}, {"%.3X", 10, "00A"}, {"%.3u", 10, "010"}, {"%.1x", 255, "ff"}, {"%.0x", 0, "0"}, {"%.0o", 0, "0"}, {"%.u", 0, "0"},
		{"%#.3o", 8, "010"}, {"%#.2o", 8, "010"}, {"%#.0o", 0, "0"}, {"%#.2o", 0, "00"}, {"%#.3x", 10, "0x00a"}, {"%#.3x", 0, "000"}, {"%#.0x", 0, "0"}, {"%#.3X", 10, "0X00A"},
		{"%5x", 255, "   ff"}, {"%-5x|", 255, "ff   |"}, {"%05x", 255, "000ff"}, {"%#6x", 255, "  0xff"}, {"%#06x", 255, "0x00ff"}, {"%#06X", 255, "0X00FF"}, {"%#-6x|", 255, "0xff  |"}, {"%-#06x|", 255, "0xff  |"}, {"%#06x", 0, "000000"}, {"%#3x", 255, "0xff"}, {"%#05o", 8, "00010"}, {"%#5o", 8, "  010"}, {"%05u", 7, "00007"}, {"%05o", 0, "00000"},
		{"%06.3x", 10, "   00a"}, {"%#07.3x", 10, "  0x00a"}, {"%#-07.3x|", 10, "0x00a  |"}, {"%05.0u", 7, "    7"},
		{"%+u", 7, "7"}, {"% u", 7, "7"}, {"%+x", 7, "7"}, {"% #x", 7, "0x7"}, {"%+ o", 7, "7"}, {"%+05u", 7, "00007"}, {"%+.2X", 7, "07"},
	})
	for _, letter := range []string{"o", "x", "X", "u"} {
		for _, x := range []float64{-1, -1.5, -255, -1e300, 1 << 64, 1<<64 + 4096, 1e20, math.MaxFloat64, inf, -inf, nan} {
			checkNone(t, "%"+letter, numbers(x), "%.6g", 1000)
			checkNone(t, "%-#08.3"+letter, numbers(x), "%.6g", 1000)
		}
	}
}

// P12.1: e, f, g and their like: the formats of numbers, with flags, width and digits.
func TestFloats(t *testing.T) {
	checkOnes(t, []one{
		{"%f", 2.5, "2.500000"}, {"%F", 2.5, "2.500000"}, {"%e", 2.5, "2.500000e+00"}, {"%E", 2.5, "2.500000E+00"}, {"%g", 2.5, "2.5"}, {"%G", 1e-10, "1E-10"}, {"%g", 0.0001, "0.0001"}, {"%g", 1e6, "1e+06"}, {"%g", 100000, "100000"},
		{"%f", 3, "3.000000"}, {"%e", 0, "0.000000e+00"}, {"%f", math.Copysign(0, -1), "-0.000000"}, {"%g", math.Copysign(0, -1), "-0"}, {"%.0f", -0.25, "-0"},
		{"%.f", 2.5, "2"}, {"%.0f", 3.5, "4"}, {"%#.0f", 3, "3."}, {"%#.f", 3, "3."}, {"%.1f", 2.25, "2.2"}, {"%.2e", 1234, "1.23e+03"}, {"%.3g", 1234, "1.23e+03"}, {"%.0g", 1234, "1e+03"}, {"%#g", 1, "1.00000"}, {"%#.0e", 1, "1.e+00"}, {"%.10g", 1.0 / 3, "0.3333333333"},
		{"%5.1f", 2.25, "  2.2"}, {"%-8.2e|", 1234, "1.23e+03|"}, {"%-7.1f|", 2.25, "2.2    |"}, {"%07.2f", 2.25, "0002.25"}, {"%07.2f", -2.25, "-002.25"}, {"%+07.2f", 2.25, "+002.25"}, {"% 07.2f", 2.25, " 002.25"}, {"%-07.2f|", 2.25, "2.25   |"}, {"%+.1f", 2.25, "+2.2"}, {"% .1f", 2.25, " 2.2"}, {"% +.1f", 2.25, "+2.2"}, {"%+.1f", -2.25, "-2.2"}, {"%+f", math.Copysign(0, -1), "-0.000000"}, {"%08g", 0.5, "000000.5"}, {"%012e", -1, "-1.000000e+00"}, {"%014e", -1, "-01.000000e+00"}, {"%3g", 12345, "12345"},
		{"%f", inf, "inf"}, {"%e", -inf, "-inf"}, {"%g", nan, "nan"}, {"%F", inf, "inf"}, {"%E", -inf, "-inf"}, {"%G", nan, "nan"}, {"%+f", inf, "+inf"}, {"% g", nan, " nan"}, {"%.1f", inf, "inf"}, {"%06f", inf, "   inf"}, {"%06e", -inf, "  -inf"}, {"%06G", nan, "   nan"}, {"%-06g|", nan, "nan   |"}, {"%+06g", inf, "  +inf"}, {"%#f", inf, "inf"},
		{"%f", 1e22, "10000000000000000000000.000000"}, {"%g", 1e22, "1e+22"}, {"%.20f", 0.1, "0.10000000000000000555"}, {"%.60g", 0.5, "0.5"}, {"%g", 5e-324, "4.94066e-324"},
	})
	for _, c := range []struct {
		format string
		v      value.Value
		want   string
	}{
		{"%.1f", str("2.25x"), "2.2"}, {"%g", str("x"), "0"}, {"%f", nil, "0.000000"}, {"%g", value.Outside(" 1e3 "), "1000"}, {"%e", both("x"), "0.000000e+00"}, {"%g", str("1e999"), "inf"}, {"%d", str(" -7.9e0z"), "-7"}, {"%x", str("255"), "ff"}, {"%x", str("0xff"), "0"}, {"%x", value.Outside("255 "), "ff"}, {"%u", nil, "0"}, {"%d", both("inf"), "0"},
	} {
		checkSpell(t, c.format, list(c.v), "", c.want)
	}
	checkNone(t, "%x", list(str("-1")), "%.6g", 100)
	checkNone(t, "%u", list(value.Outside("18446744073709551616")), "%.6g", 100)
}

// P12.1: c: the byte of a number, or the first one of a text.
func TestBytes(t *testing.T) {
	for c := range 256 {
		want := string([]byte{byte(c)})
		for _, more := range []float64{0, 0.5, 256, 256.25, 512, 1 << 40} {
			checkOnes(t, []one{{"%c", float64(c) + more, want}})
		}
		checkOnes(t, []one{{"%c", float64(c) - 256, want}, {"%c", float64(c) - 1<<40, want}})
		checkSpell(t, "%c", list(str(want)), "", want)
		checkSpell(t, "%c", list(str(want+"x")), "", want)
	}
	checkOnes(t, []one{
		{"%c", -0.9, "\x00"}, {"%c", -1.9, "\xff"}, {"%c", -256, "\x00"}, {"%c", 1e300, "\x00"}, {"%c", -1 << 62, "\x00"}, {"%c", 1<<53 - 1, "\xff"}, {"%c", 1 - 1<<53, "\x01"}, {"%c", inf, "\x00"}, {"%c", -inf, "\x00"}, {"%c", nan, "\x00"},
		{"%3c", 65, "  A"}, {"%-3c|", 65, "A  |"}, {"%03c", 65, "  A"}, {"%-03c|", 65, "A  |"}, {"%.0c", 65, "A"}, {"%.5c", 65, "A"}, {"%+c", 65, "A"}, {"% c", 65, "A"}, {"%#c", 65, "A"}, {"%+03.2c", 65, "  A"},
	})
	for _, c := range []struct {
		format string
		v      value.Value
		want   string
	}{
		{"%c", str(""), ""}, {"%c", str("xyz"), "x"}, {"%c", str("\u00e9"), "\xc3"}, {"%c", str("65"), "6"}, {"%c", value.Outside("65"), "A"}, {"%c", value.Outside(" 65 "), "A"}, {"%c", value.Outside("65x"), "6"}, {"%c", value.Outside(""), ""}, {"%c", both("x"), "\x00"}, {"%c", value.Outside("1e400"), "\x00"}, {"%c", nil, ""}, {"%c", value.Of(api.Val{}), ""}, {"%c", value.Of(api.Val{Kind: "other", Str: "x"}), ""},
		{"%3c|", str(""), "   |"}, {"%-3c|", nil, "   |"}, {"%03c|", str("ab"), "  a|"}, {"%.0c", str("ab"), "a"}, {"%.3c", str("ab"), "a"},
	} {
		checkSpell(t, c.format, list(c.v), "", c.want)
	}
}

// P12.1: s: texts, of numbers by the format that is told, or their first bytes.
func TestTexts(t *testing.T) {
	for _, c := range []struct {
		format string
		v      value.Value
		conv   string
		want   string
	}{
		{"%s", str("abc"), "", "abc"}, {"%s", str(""), "", ""}, {"%s", str("%d %%"), "", "%d %%"}, {"%s", str("a\x00\n\xff"), "", "a\x00\n\xff"}, {"%s", nil, "", ""}, {"%s", value.Outside(" 1.50 "), "", " 1.50 "}, {"%s", both("x"), "", "x"},
		{"%s", num(0.1), "%.6g", "0.1"}, {"%s", num(1.0 / 3), "%.2f", "0.33"}, {"%s", num(0.5), "%+05.1f", "+00.5"}, {"%s", num(17), "%.2f", "17"}, {"%s", num(17), "x", "17"}, {"%s", num(-1e18), "", "-1000000000000000000"}, {"%s", num(1e19), "%.2g", "1e+19"}, {"%s", num(nan), "%.6g", "nan"}, {"%s", num(-inf), "%e", "-inf"},
		{"%.2s", str("abc"), "", "ab"}, {"%.0s|", str("abc"), "", "|"}, {"%.s|", str("abc"), "", "|"}, {"%.3s", str("abc"), "", "abc"}, {"%.9s", str("abc"), "", "abc"}, {"%.1s", str("\u00e9"), "", "\xc3"}, {"%.3s", num(0.125), "%.6g", "0.1"}, {"%.2s", value.Outside("12.5"), "", "12"}, {"%.2s", nil, "", ""},
		{"%5s", str("ab"), "", "   ab"}, {"%-5s|", str("ab"), "", "ab   |"}, {"%05s", str("a"), "", "    a"}, {"%-05s|", str("a"), "", "a    |"}, {"%05s", num(7), "", "    7"}, {"%05s", num(-7), "", "   -7"}, {"%1s", str("ab"), "", "ab"}, {"%5.1s|", str("ab"), "", "    a|"}, {"%-5.1s|", str("ab"), "", "a    |"}, {"%3s|", nil, "", "   |"}, {"%3s|", str("\u00e9"), "", " \u00e9|"},
		{"%+s", num(7), "", "7"}, {"% s", num(7), "", "7"}, {"%#s", num(7), "", "7"}, {"%+ #05s", num(0.5), "%.6g", "  0.5"},
	} {
		checkSpell(t, c.format, list(c.v), c.conv, c.want)
	}
}

// P12.1: where s's text isn't made there is none; other conversions don't ask for it.
func TestTextsThatAreNotMade(t *testing.T) {
	for _, conv := range []string{"", "%d", "%s", "%c", "x", "%", "%.61g", "%201g", "%.6g ", "%%", "%*g", "%.*g"} {
		for _, format := range []string{"%s", "%.0s", "%5s", "a%sb", "%d%s"} {
			checkNone(t, format, numbers(0.5, 0.5), conv, 1000)
		}
		for _, x := range []float64{0.5, 1e19, inf, -inf, nan} {
			checkNone(t, "%s", numbers(x), conv, 1000)
		}
		checkSpell(t, "%s %d %g %c %x%s", list(num(5), num(0.5), num(0.5), num(65.5), num(1.5), str("0.5")), conv, "5 0 0.5 A 10.5")
	}
}

// P12.1: a text of more than most bytes is none.
func TestMost(t *testing.T) {
	for _, c := range []struct {
		format string
		most   int
		want   string
		ok     bool
	}{
		{"", 0, "", true}, {"", -1, "", false}, {"", math.MinInt, "", false}, {"a", 0, "", false}, {"a", 1, "a", true}, {"%%", 0, "", false}, {"%%", 1, "%", true},
		{"%d", 1, "", false}, {"%d", 2, "12", true}, {"%5d", 4, "", false}, {"%5d", 5, "   12", true}, {"%-5d", 4, "", false}, {"%-5d", 5, "12   ", true}, {"%05d", 4, "", false}, {"%05d", 5, "00012", true}, {"%.0s", 0, "", true}, {"%.0s", -1, "", false}, {"%.0s%s", 1, "", false}, {"%.0s%s", 2, "34", true}, {"%d%d", 3, "", false}, {"%d%d", 4, "1234", true}, {"%s|%s", 4, "", false}, {"%s|%s", 5, "12|34", true}, {"%d", 1 << 32, "12", true}, {"%#x", 2, "", false}, {"%#x", 3, "0xc", true},
	} {
		if got, ok := Spell(c.format, numbers(12, 34), "%.6g", c.most); got != c.want || ok != c.ok {
			t.Errorf("%q, at most %d: %q, %v", c.format, c.most, got, ok)
		}
	}
	five := list(str(""), str(""), str(""), str(""), str(""), str("x"))
	checkSpell(t, "%200s%200s%200s%200s%200s", five, "", strings.Repeat(" ", 1000))
	checkNone(t, "%200s%200s%200s%200s%200s%s", five, "", 1000)
}
