package value

import (
	"math"
	"strings"

	"tedder/api"
	"tedder/dec"
)

const (
	maxWidth = 200
	// usualPrec is how many digits stand behind the point where a format has no point.
	usualPrec = 6
)

// format: what a text for numbers asks for.
type format struct {
	flags       string
	width, prec int
	verb        byte
}

// numberText gives the digits of x, if it is whole, else what the format conv makes of it; no text and false, if conv is none.
func numberText(x float64, conv string) (string, bool) {
	if digits, ok := dec.Whole(x); ok {
		return digits, true
	}
	f, ok := readFormat(conv)
	if !ok {
		return "", false
	}
	return f.text(x), true
}

// readFormat gives what conv asks for, and whether it is a format.
func readFormat(conv string) (format, bool) {
	rest, ok := strings.CutPrefix(conv, "%")
	if !ok {
		return format{}, false
	}
	f := format{prec: usualPrec}
	behind := strings.TrimLeft(rest, "-+ 0#")
	f.flags = rest[:len(rest)-len(behind)]
	f.width, rest = leadingNumber(behind, maxWidth)
	if behind, ok := strings.CutPrefix(rest, "."); ok {
		f.prec, rest = leadingNumber(behind, api.MaxPrec)
	}
	if f.width > maxWidth || f.prec > api.MaxPrec || len(rest) != 1 || !strings.Contains("eEfFgG", rest) {
		return format{}, false
	}
	f.verb = rest[0]
	return f, true
}

// leadingNumber gives the number of the digits that s begins with (0 without any, some number above most of one that is greater), and what is behind them.
func leadingNumber(s string, most int) (int, string) {
	n, i := 0, 0
	for i < len(s) && '0' <= s[i] && s[i] <= '9' {
		if n <= most {
			n = n*10 + int(s[i]-'0')
		}
		i++
	}
	return n, s[i:]
}

// has tells whether the flag is there.
func (f format) has(flag string) bool { return strings.Contains(f.flags, flag) }

// text gives what f makes of x.
func (f format) text(x float64) string {
	digits, below := strings.CutPrefix(dec.Format(x, f.verb, f.prec, f.has("#")), "-")
	sign := f.sign(below)
	room := max(f.width-len(sign)-len(digits), 0)
	switch {
	case f.has("-"):
		return sign + digits + strings.Repeat(" ", room)
	case f.has("0") && !math.IsInf(x, 0) && !math.IsNaN(x):
		return sign + strings.Repeat("0", room) + digits
	default:
		return strings.Repeat(" ", room) + sign + digits
	}
}

// sign gives what stands ahead of the digits of a number, which has a - of its own or not.
func (f format) sign(below bool) string {
	switch {
	case below:
		return "-"
	case f.has("+"):
		return "+"
	case f.has(" "):
		return " "
	}
	return ""
}
