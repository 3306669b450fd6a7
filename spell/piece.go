package spell

import (
	"math"
	"strconv"
	"strings"

	"tedder/dec"
	"tedder/value"
)

// usualPrec is how many digits stand behind the point of a number without a precision.
const usualPrec = 6

// piece: what an argument is, ahead of being filled to a width.
type piece struct {
	head  string // a sign, or 0x, which zeros stand behind
	body  string
	zeros bool // whether the flag 0 fills it with zeros
}

// piece gives what c makes of v, of a number's text by the format conv; false, if it makes nothing of it.
func (c conversion) piece(v value.Value, conv string) (piece, bool) {
	switch c.letter {
	case 'd', 'i':
		return c.signed(value.Number(v)), true
	case 'o', 'x', 'X', 'u':
		return c.unsigned(value.Number(v))
	case 'c':
		return piece{body: firstByte(v)}, true
	case 's':
		text, ok := value.Text(v, conv)
		if c.prec != noPrec {
			text = text[:min(c.prec, len(text))]
		}
		return piece{body: text}, ok
	}
	return c.float(value.Number(v)), true
}

// signed gives x, cut, in digits.
func (c conversion) signed(x float64) piece {
	whole := math.Trunc(x)
	digits := dec.Format(math.Abs(whole), 'f', 0, false)
	// A number below 0 that is cut to 0 has no sign.
	head := c.sign(whole < 0)
	if !finite(x) {
		return piece{head: head, body: digits}
	}
	return piece{head: head, body: c.atLeast(digits), zeros: c.prec == noPrec}
}

// unsigned gives x, cut, in digits of the base that the letter asks for; false, if 64 bits don't hold it.
func (c conversion) unsigned(x float64) (piece, bool) {
	whole := math.Trunc(x)
	// What is no number is in no range.
	if !(whole >= 0 && whole < 1<<64) {
		return piece{}, false
	}
	p := piece{body: c.atLeast(c.digits(uint64(whole))), zeros: c.prec == noPrec}
	switch {
	case !c.has("#"):
	case c.letter == 'o' && p.body[0] != '0':
		p.body = "0" + p.body
	case (c.letter == 'x' || c.letter == 'X') && whole != 0:
		p.head = "0" + string(c.letter)
	}
	return p, true
}

// digits gives n in the base that the letter asks for.
func (c conversion) digits(n uint64) string {
	switch c.letter {
	case 'o':
		return strconv.FormatUint(n, 8)
	case 'x':
		return strconv.FormatUint(n, 16)
	case 'X':
		return strings.ToUpper(strconv.FormatUint(n, 16))
	}
	return strconv.FormatUint(n, 10)
}

// float gives x with a point, or a power of ten.
func (c conversion) float(x float64) piece {
	prec := c.prec
	if prec == noPrec {
		prec = usualPrec
	}
	digits, below := strings.CutPrefix(dec.Format(x, c.letter, prec, c.has("#")), "-")
	return piece{head: c.sign(below), body: digits, zeros: finite(x)}
}

// atLeast gives the digits, with zeros ahead up to the precision, if there is one.
func (c conversion) atLeast(digits string) string {
	return strings.Repeat("0", max(c.prec-len(digits), 0)) + digits
}

// sign gives what stands ahead of the digits of a number, which is below 0 or not.
func (c conversion) sign(below bool) string {
	switch {
	case below:
		return "-"
	case c.has("+"):
		return "+"
	case c.has(" "):
		return " "
	}
	return ""
}

// firstByte gives the byte whose number v is, or, of what is no number, the one that its text begins with, if there is one.
func firstByte(v value.Value) string {
	p := value.Plain(v)
	if p.Kind != "num" && p.Kind != "both" {
		return p.Str[:min(len(p.Str), 1)]
	}
	if !finite(p.Num) {
		return "\x00"
	}
	// What is left of a number below 0 is below 0, too; as a byte it counts from 256 down.
	return string([]byte{byte(int(math.Mod(math.Trunc(p.Num), 256)))})
}

// finite tells whether x is a number that isn't infinite.
func finite(x float64) bool { return !math.IsInf(x, 0) && !math.IsNaN(x) }
