package value

import (
	"fmt"
	"math"
	"math/big"
	"regexp"
	"strconv"
	"strings"
	"testing"

	"tedder/api"
	"tedder/dec"
	"tedder/sample"
)

// made is a number, a format, and what the format makes of the number; nothing, if it is no format.
type made struct {
	x    float64
	conv string
	want string
}

func checkMade(t *testing.T, cases []made) {
	t.Helper()
	for _, c := range cases {
		if s, ok := Text(ofNum(c.x), c.conv); s != c.want || ok != (c.want != "") {
			t.Errorf("Text of %v by %.60q is %q, %v, not %q", c.x, c.conv, s, ok, c.want)
		}
	}
}

// P8.1: Text of whole numbers is their digits, and no format is asked.
func TestTextOfWholeNumbers(t *testing.T) {
	for _, conv := range []string{"%.6g", "%08.2f", "%d", "x", ""} {
		checkMade(t, []made{
			{0, conv, "0"},
			{negZero(), conv, "0"},
			{3, conv, "3"},
			{-17, conv, "-17"},
			{1234567, conv, "1234567"},
			{1e18, conv, "1000000000000000000"},
			{1<<63 - 1024, conv, "9223372036854774784"},
		})
	}
}

// P8.1: Text of what is no number alone asks no format.
func TestTextOfTexts(t *testing.T) {
	for _, conv := range []string{"%.6g", "%d", "x", ""} {
		for i, c := range []struct {
			v    Value
			want string
		}{
			{nil, ""},
			{ofNone(), ""},
			{ofStr(""), ""},
			{ofStr("x\xff\x00"), "x\xff\x00"},
			{ofStr("0.10"), "0.10"},
			{Outside(" 7 "), " 7 "},
			{Outside("0.10"), "0.10"},
			{Outside("1e3"), "1e3"},
			{Outside("+5x"), "+5x"},
			{Of(api.Val{Kind: "both", Str: "0.5x", Num: 3}), "0.5x"},
		} {
			if s, ok := Text(c.v, conv); s != c.want || !ok {
				t.Errorf("%d: Text by %q is %q, %v", i, conv, s, ok)
			}
		}
	}
}

// P8.1: each letter, and how many digits stand behind the point.
func TestLetters(t *testing.T) {
	checkMade(t, []made{
		{0.1, "%.3g", "0.1"},
		{2.5, "%g", "2.5"},
		{2.5, "%f", "2.500000"},
		{2.5, "%F", "2.500000"},
		{2.5, "%e", "2.500000e+00"},
		{2.5, "%E", "2.500000E+00"},
		{1.0 / 3, "%g", "0.333333"},
		{1.0 / 3, "%G", "0.333333"},
		{1e-7, "%g", "1e-07"},
		{1e-7, "%G", "1E-07"},
		{1e300, "%.6g", "1e+300"},
		{1e300, "%G", "1E+300"},
		{0.5, "%.f", "0"},
		{1.5, "%.f", "2"},
		{2.5, "%.0f", "2"},
		{2.5, "%.e", "2e+00"},
		{1234.5, "%.g", "1e+03"},
		{2.5, "%.1f", "2.5"},
		{0.1, "%.60f", dec.Format(0.1, 'f', 60, false)},
		{0.1, "%.00000000000000000000000000000000000060f", dec.Format(0.1, 'f', 60, false)},
		{2.5, "%.01f", "2.5"},
		{1 << 63, "%f", "9223372036854775808.000000"},
		{-(1 << 63), "%.0f", "-9223372036854775808"},
		{-0.25, "%.0f", "-0"},
		{math.Inf(1), "%g", "inf"},
		{math.Inf(-1), "%E", "-inf"},
		{math.NaN(), "%G", "nan"},
		{math.NaN(), "%.3f", "nan"},
	})
}

// P8.1: the flags, each by itself and several of them.
func TestFlags(t *testing.T) {
	checkMade(t, []made{
		{2.5, "%08.2f", "00002.50"},
		{-2.5, "%08.2f", "-0002.50"},
		{2.5, "%-8.1f", "2.5     "},
		{-2.5, "%-8.1f", "-2.5    "},
		{2.5, "%8.1f", "     2.5"},
		{-2.5, "%8.1f", "    -2.5"},
		{2.5, "%+.0e", "+2e+00"},
		{-2.5, "%+.0e", "-2e+00"},
		{1e-7, "%+g", "+1e-07"},
		{1e-7, "% g", " 1e-07"},
		{-1e-7, "%+010g", "-00001e-07"},
		{2.5, "% .1f", " 2.5"},
		{-2.5, "% .1f", "-2.5"},
		{2.5, "%+ .1f", "+2.5"},
		{2.5, "% +.1f", "+2.5"},
		{2.5, "% #.0f", " 2."},
		{2.5, "%#g", "2.50000"},
		{2.5, "%#.0e", "2.e+00"},
		{2.5, "%-08.1f", "2.5     "},
		{2.5, "%0-8.1f", "2.5     "},
		{2.5, "%+08.1f", "+00002.5"},
		{2.5, "% 08.1f", " 00002.5"},
		{2.5, "%+8.1f", "    +2.5"},
		{2.5, "% 8.1f", "     2.5"},
		{2.5, "%+-8.1f", "+2.5    "},
		{2.5, "% -8.1f", " 2.5    "},
		{2.5, "%----++++    0000####8.1f", "+2.5    "},
		{2.5, "%0000000000000000000000000000000000000000000000000000000005.1f", "002.5"},
		{2.5, "%" + strings.Repeat("-", 100000) + "5.1f", "2.5  "},
		{2.5, "%3.1f", "2.5"},
		{2.5, "%2.1f", "2.5"},
		{2.5, "%+3.1f", "+2.5"},
		{2.5, "%+04.1f", "+2.5"},
	})
}

// P8.1: of what isn't finite no zeros fill the width, but signs stand as of others.
func TestFilledEndless(t *testing.T) {
	checkMade(t, []made{
		{math.Inf(1), "%06g", "   inf"},
		{math.Inf(-1), "%06g", "  -inf"},
		{math.NaN(), "%06g", "   nan"},
		{math.Inf(1), "%+06g", "  +inf"},
		{math.NaN(), "%+06f", "  +nan"},
		{math.NaN(), "% 06f", "   nan"},
		{math.NaN(), "% f", " nan"},
		{math.Inf(1), "% e", " inf"},
		{math.Inf(-1), "%+e", "-inf"},
		{math.Inf(-1), "%-06e", "-inf  "},
		{math.Inf(1), "%#.9G", "inf"},
	})
}

// P8.1: widths and digits behind the point at their bounds and past them.
func TestBoundsOfFormats(t *testing.T) {
	checkMade(t, []made{
		{0.5, "%200g", strings.Repeat(" ", 197) + "0.5"},
		{0.5, "%0200g", strings.Repeat("0", 198) + ".5"},
		{-0.5, "%-200g", "-0.5" + strings.Repeat(" ", 196)},
		{0.5, "%201g", ""},
		{0.5, "%0201g", ""},
		{0.5, "%999g", ""},
		{0.5, "%2000g", ""},
		{0.5, "%18446744073709551617g", ""},
		{0.5, "%" + strings.Repeat("9", 100000) + "g", ""},
		{0.5, "%.61g", ""},
		{0.5, "%.061g", ""},
		{0.5, "%.600g", ""},
		{0.5, "%.18446744073709551617g", ""},
		{0.5, "%." + strings.Repeat("9", 100000) + "g", ""},
		{0.5, "%200.60f", strings.Repeat(" ", 138) + "0.5" + strings.Repeat("0", 59)},
	})
}

// P8.1: what isn't wholly a format makes no text of a number that isn't whole.
func TestNoFormats(t *testing.T) {
	for _, conv := range []string{
		"", "g", "%", "%%", "%d", "%s", "%c", "%i", "%x", "%a", "%A", "%v", "%5", "%.", "%.5", "%-", "x%g", " %g", "%gx", "%g ", "%g%g", "%%g", "%lg", "%Lf", "%hg",
		"%*g", "%.*g", "%5-g", "%5+g", "%5 g", "%5#g", "%.-5g", "%.+5g", "%. 5g", "%5..5g", "%.5.5g", "%5.5.g", "%'g", "%1$g", "%\tg", "%\ng", "%g\n", "%\x00g", "%g\x00", "%\xffg", "%\u0665g", "\uff05g", "%ee", "%eE", "%Ff", "%fF", "%gG", "%eEfFgG", "%5e5",
	} {
		checkMade(t, []made{{0.5, conv, ""}, {math.Inf(1), conv, ""}, {math.NaN(), conv, ""}, {1e300, conv, ""}, {3, conv, "3"}})
	}
	for c := range 256 {
		conv := "%" + string([]byte{byte(c)})
		if s, ok := Text(ofNum(0.5), conv); ok != (c != 0 && strings.Contains("eEfFgG", conv[1:])) || ok != (s != "") {
			t.Errorf("Text of 0.5 by %q is %q, %v", conv, s, ok)
		}
	}
}

// isFormat tells by a pattern whether conv is a format.
func isFormat(pattern *regexp.Regexp, conv string) bool {
	parts := pattern.FindStringSubmatch(conv)
	if parts == nil {
		return false
	}
	width, _ := new(big.Int).SetString("0"+parts[1], 10)
	prec, _ := new(big.Int).SetString("0"+parts[2], 10)
	return width.Cmp(big.NewInt(200)) <= 0 && prec.Cmp(big.NewInt(60)) <= 0
}

// P8.1: of all small texts those are formats that a pattern tells.
func TestSmallFormats(t *testing.T) {
	pattern := regexp.MustCompile(`^%[-+ 0#]*([0-9]*)(?:\.([0-9]*))?[eEfFgG]$`)
	texts := sample.Texts("%-0.2g", 6)
	for _, s := range sample.Texts("01269. ", 5) {
		texts = append(texts, "%"+s+"f", "%#"+s+"E", "%."+s+"G", "%"+s)
	}
	for _, conv := range texts {
		s, ok := Text(ofNum(0.25), conv)
		if want := isFormat(pattern, conv); ok != want || ok != (s != "") {
			t.Errorf("Text of 0.25 by %q is %q, %v", conv, s, ok)
		}
	}
}

// plainMade says the chapter again: the library fills a width with blanks as a C program does; zeros are put in one by one.
func plainMade(x float64, flags string, width, prec int, verb byte) string {
	has := func(flag string) bool { return strings.Contains(flags, flag) }
	text := dec.Format(x, verb, prec, has("#"))
	if !strings.HasPrefix(text, "-") {
		if has("+") {
			text = "+" + text
		} else if has(" ") {
			text = " " + text
		}
	}
	if has("-") {
		return fmt.Sprintf("%-*s", width, text)
	}
	if has("0") && !math.IsInf(x, 0) && x == x {
		first := strings.IndexAny(text, "0123456789")
		for len(text) < width {
			text = text[:first] + "0" + text[first:]
		}
	}
	return fmt.Sprintf("%*s", width, text)
}

// P8.1: with all flags, of numbers of all sizes, what the chapter says, and what the library makes of finite ones.
func TestManyFormats(t *testing.T) {
	flags := sample.Texts("-+ 0#", 3)
	for i, x := range someNumbers(20000) {
		if _, whole := dec.Whole(x); whole {
			continue
		}
		flag, width, prec, verb := flags[i%len(flags)], i/3%24+1, i%8, "eEfFgG"[i/7%6]
		conv := "%" + flag + strconv.Itoa(width) + "." + strconv.Itoa(prec) + string(verb)
		checkMade(t, []made{{x, conv, plainMade(x, flag, width, prec, verb)}})
		if !math.IsInf(x, 0) && x == x {
			checkMade(t, []made{{x, conv, fmt.Sprintf(conv, x)}})
		}
		conv = "%" + flag + string(verb)
		checkMade(t, []made{{x, conv, plainMade(x, flag, 0, 6, verb)}})
	}
}
