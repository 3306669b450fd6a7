package spell

import (
	"fmt"
	"math"
	"math/big"
	"regexp"
	"strconv"
	"strings"
	"testing"

	"tedder/api"
	"tedder/dec"
	"tedder/sample"
	"tedder/value"
)

// plainConversion has flags, a width, a point with digits, and a letter; all of it is bytes.
var plainConversion = regexp.MustCompile(`^%([-+ 0#]*)(\*|[0-9]*)(\.(?:\*|[0-9]*))?([dioxXueEfFgGcs])`)

// plainSpell does what the chapter says, word by word; false, if there is no text.
func plainSpell(format string, args []value.Value, conv string, most int) (string, bool) {
	out, failed := "", false
	next := func() value.Value {
		if len(args) == 0 {
			failed = true
			return nil
		}
		v := args[0]
		args = args[1:]
		return v
	}
	for format != "" && !failed {
		if rest, ok := strings.CutPrefix(format, "%%"); ok {
			out, format = out+"%", rest
			continue
		}
		if format[0] != '%' {
			out, format = out+format[:1], format[1:]
			continue
		}
		m := plainConversion.FindStringSubmatch(format)
		if m == nil {
			return "", false
		}
		format = format[len(m[0]):]
		flags, width, prec, ok := plainOrders(m, next)
		if !ok {
			return "", false
		}
		v := next()
		text, zeros, ok := plainPiece(m[4], flags, prec, v, conv)
		if !ok {
			return "", false
		}
		out += plainFill(text, zeros && strings.Contains(flags, "0"), strings.Contains(flags, "-"), width)
	}
	if failed || len(out) > most {
		return "", false
	}
	return out, true
}

// plainOrders gives the flags, the width, and the precision (below 0: none).
func plainOrders(m []string, next func() value.Value) (string, int, int, bool) {
	flags, width, prec := m[1], 0.0, -1.0
	switch {
	case m[2] == "*":
		width = math.Trunc(value.Number(next()))
	case m[2] != "":
		width, _ = strconv.ParseFloat(m[2], 64)
	}
	switch {
	case m[3] == ".*":
		prec = math.Trunc(value.Number(next()))
	case m[3] == ".":
		prec = 0
	case m[3] != "":
		prec, _ = strconv.ParseFloat(m[3][1:], 64)
	}
	if width != width || prec != prec || width < -200 || width > 200 || prec > 60 {
		return "", 0, 0, false
	}
	if width < 0 {
		flags, width = flags+"-", -width
	}
	if prec < 0 {
		prec = -1
	}
	return flags, int(width), int(prec), true
}

// plainPiece gives what stands there without a width, and whether zeros may fill it.
func plainPiece(letter, flags string, prec int, v value.Value, conv string) (string, bool, bool) {
	x := value.Number(v)
	endless := math.IsInf(x, 0) || math.IsNaN(x)
	sharp := strings.Contains(flags, "#")
	switch letter {
	case "d", "i":
		if endless {
			return plainSigned(dec.Format(x, 'f', 0, false), flags), false, true
		}
		whole, _ := big.NewFloat(x).Int(nil)
		text := plainZeros(new(big.Int).Abs(whole).String(), prec)
		if whole.Sign() < 0 {
			text = "-" + text
		}
		return plainSigned(text, flags), prec < 0, true
	case "o", "x", "X", "u":
		if endless {
			return "", false, false
		}
		whole, _ := big.NewFloat(x).Int(nil)
		if whole.Sign() < 0 || whole.BitLen() > 64 {
			return "", false, false
		}
		return plainBase(letter, whole, prec, sharp), prec < 0, true
	case "c":
		p := value.Plain(v)
		switch {
		case p.Kind != "num" && p.Kind != "both":
			return p.Str[:min(1, len(p.Str))], false, true
		case endless:
			return "\x00", false, true
		}
		whole, _ := big.NewFloat(x).Int(nil)
		return string([]byte{byte(new(big.Int).Mod(whole, big.NewInt(256)).Int64())}), false, true
	case "s":
		text, ok := value.Text(v, conv)
		if prec >= 0 && prec < len(text) {
			text = text[:prec]
		}
		return text, false, ok
	}
	if prec < 0 {
		prec = 6
	}
	return plainSigned(dec.Format(x, letter[0], prec, sharp), flags), !endless, true
}

// plainSigned puts + or a blank ahead of what has no -.
func plainSigned(text, flags string) string {
	switch {
	case text[0] == '-':
		return text
	case strings.Contains(flags, "+"):
		return "+" + text
	case strings.Contains(flags, " "):
		return " " + text
	}
	return text
}

func plainZeros(digits string, prec int) string {
	for len(digits) < prec {
		digits = "0" + digits
	}
	return digits
}

// plainBase gives a number of 64 bits as the letter asks for.
func plainBase(letter string, whole *big.Int, prec int, sharp bool) string {
	base := map[string]int{"o": 8, "x": 16, "X": 16, "u": 10}[letter]
	text := plainZeros(whole.Text(base), prec)
	if letter == "X" {
		text = strings.ToUpper(text)
	}
	if sharp && letter == "o" && text[0] != '0' {
		text = "0" + text
	}
	if sharp && base == 16 && whole.Sign() != 0 {
		text = "0" + letter + text
	}
	return text
}

// plainHead is what zeros stand behind.
var plainHead = regexp.MustCompile(`^([-+ ]?(?:0[xX])?)(.*)$`)

// plainFill adds one byte after the other, up to the width.
func plainFill(text string, zeros, behind bool, width int) string {
	for len(text) < width {
		switch {
		case behind:
			text += " "
		case zeros:
			text = plainHead.ReplaceAllString(text, "${1}0${2}")
		default:
			text = " " + text
		}
	}
	return text
}

// checkPlain asks for what the chapter's words tell.
func checkPlain(t *testing.T, format string, args []value.Value, conv string, most int) {
	t.Helper()
	got, ok := Spell(format, args, conv, most)
	if want, wantOk := plainSpell(format, args, conv, most); got != want || ok != wantOk {
		var plain []api.Val
		for _, v := range args {
			plain = append(plain, value.Plain(v))
		}
		t.Errorf("%q of %v by %q, at most %d: %q, %v, not %q, %v", format, plain, conv, most, got, ok, want, wantOk)
	}
}

// manyNumbers gives numbers of all sizes, edges among them.
func manyNumbers(count int) []float64 {
	l := []float64{0, math.Copysign(0, -1), 1, -1, 0.5, -0.5, 2.5, -7.9, 8, 65, 200, -200, 201, 60, 61, 255, 256, -256, 1e6, 123456.5, 1 << 53, 1 << 63, -(1 << 63), 1<<64 - 2048, 1 << 64, 1e22, math.MaxFloat64, math.SmallestNonzeroFloat64, inf, -inf, nan}
	for i, bits := range sample.Bits(count) {
		if i%2 == 0 {
			l = append(l, math.Float64frombits(bits))
		} else {
			l = append(l, float64(int64(bits)>>44)/64)
		}
	}
	return l
}

// manyValues gives values of all kinds.
func manyValues() []value.Value {
	l := append(numbers(manyNumbers(20)...), nil, value.Of(api.Val{}))
	for _, s := range []string{"", " ", "0", "12", " 7.5 ", "-3", "1e3", "12x", "abc", "hello world", "%d", "\xff\x00", "\u00e9", "-", "1e400"} {
		l = append(l, str(s), value.Outside(s), both(s))
	}
	return l
}

// orders gives what may stand between a % and its letter.
func orders() []string {
	var l []string
	for flags := range 32 {
		head := "%"
		for i, flag := range []string{"-", "+", " ", "0", "#"} {
			if flags>>i&1 != 0 {
				head += flag
			}
		}
		for _, width := range []string{"", "1", "4", "12"} {
			for _, prec := range []string{"", ".", ".1", ".3", ".8"} {
				l = append(l, head+width+prec)
			}
		}
	}
	return l
}

// P12.1: all flags, with widths and precisions, of all letters and values of all kinds.
func TestManyConversions(t *testing.T) {
	l := manyValues()
	for _, order := range orders() {
		for _, letter := range strings.Split("dioxXueEfFgGcs", "") {
			for _, v := range l {
				checkPlain(t, order+letter, list(v), "%.4f", 400)
			}
		}
	}
}

// P12.1: stars of values of all kinds.
func TestManyStars(t *testing.T) {
	l := manyValues()
	for _, a := range l {
		for _, b := range l {
			for _, format := range []string{"%*d", "%.*f|", "%-*s|", "%0*x", "%.*d", "%.*s", "%0.*d", "%05.*d", "%+.*e"} {
				checkPlain(t, format, list(a, b), "%.6g", 400)
			}
			for _, c := range numbers(5.75, -12) {
				checkPlain(t, "%0*.*d|", list(a, b, c), "%.6g", 400)
				checkPlain(t, "%*.*s%d", list(a, b, c), "%.6g", 400)
			}
		}
	}
}

// P12.1: all short formats.
func TestSmallFormats(t *testing.T) {
	args := list(num(5.5), str("ab"), num(-2), nil)
	for _, format := range sample.Texts("%-05.*dsx", 5) {
		for count := range len(args) + 1 {
			if count > 0 && count < len(args) && len(format) > 4 {
				continue
			}
			checkPlain(t, format, args[:count], "%.6g", 30)
		}
	}
}

// P12.1: long formats of mixed parts.
func TestMixedFormats(t *testing.T) {
	parts := []string{"%d", "%s", "%%", "x", "\xff", " ", "%5d", "%-5s", "%*d", "%.*f", "%05.1f", "%c", "%#x", "%+d", "%.2s", "%u", "%o", "%e", "%G", "%.d", "100", "%3c", "%-*c", "% d", "\n"}
	values := manyValues()
	bits := sample.Bits(40000)
	for i := 0; i+30 < len(bits); i += 20 {
		format := ""
		var args []value.Value
		for j := range int(bits[i]>>33) % 12 {
			format += parts[int(bits[i+j]>>40)%len(parts)]
			args = append(args, values[int(bits[i+j]>>20)%len(values)])
		}
		checkPlain(t, format, args, "%.3g", int(bits[i+14]>>30)%200)
	}
}

// P12.1: of finite numbers d and the formats with a point are what the library writes, but for what a precision of 0 leaves of 0.
func TestAsTheLibrary(t *testing.T) {
	for _, order := range orders() {
		if strings.Contains(order, "#") {
			continue
		}
		for _, x := range manyNumbers(40) {
			if math.IsInf(x, 0) || x != x {
				continue
			}
			for _, letter := range []string{"e", "f", "g", "E", "F", "G"} {
				format := order + letter
				if !strings.Contains(order, ".") {
					format = order + ".6" + letter
				}
				checkSpell(t, order+letter, numbers(x), "", fmt.Sprintf(format, x))
			}
			whole, _ := big.NewFloat(x).Int(nil)
			if whole.Sign() == 0 && strings.HasSuffix(order, ".") {
				continue
			}
			checkSpell(t, order+"d", numbers(x), "", fmt.Sprintf(order+"d", whole))
		}
	}
}
