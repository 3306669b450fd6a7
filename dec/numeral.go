package dec

import (
	"strconv"
	"strings"
)

// mostPower is greater than a text has digits, so that a power beyond it comes to the same.
const mostPower = 1 << 40

// numeral has a numeral's parts as they stand in a text.
type numeral struct {
	negative    bool
	whole, part string // the digits ahead of the point, and those behind it
	power       string // the sign and the digits behind e; empty without e
}

// readNumeral gives the longest numeral that s begins with, and its size; 0, if there is none.
func readNumeral(s string) (numeral, int) {
	var n numeral
	size := signSize(s)
	n.negative = s[:size] == "-"
	n.whole = leadingDigits(s[size:])
	size += len(n.whole)
	if strings.HasPrefix(s[size:], ".") {
		n.part = leadingDigits(s[size+1:])
		size += 1 + len(n.part)
	}
	if n.whole == "" && n.part == "" {
		return numeral{}, 0
	}
	n.power = leadingPower(s[size:])
	if n.power != "" {
		size += 1 + len(n.power)
	}
	return n, size
}

// signSize gives how many bytes a sign takes at the beginning of s.
func signSize(s string) int {
	if strings.HasPrefix(s, "+") || strings.HasPrefix(s, "-") {
		return 1
	}
	return 0
}

// leadingDigits gives the digits that s begins with.
func leadingDigits(s string) string {
	i := 0
	for i < len(s) && '0' <= s[i] && s[i] <= '9' {
		i++
	}
	return s[:i]
}

// leadingPower gives the sign and the digits behind the e that s begins with; nothing, if there is no e or no digit.
func leadingPower(s string) string {
	if !strings.HasPrefix(s, "e") && !strings.HasPrefix(s, "E") {
		return ""
	}
	s = s[1:]
	sign := signSize(s)
	digits := leadingDigits(s[sign:])
	if digits == "" {
		return ""
	}
	return s[:sign+len(digits)]
}

// value gives the nearest number to what n says.
func (n numeral) value() float64 {
	text := n.plainText()
	if n.negative {
		text = "-" + text
	}
	// The one error that may come is that of a value out of range; beside it stands the infinity that is asked for.
	x, _ := strconv.ParseFloat(text, 64)
	return x
}

// plainText gives n without its sign as a digit that isn't 0, a point, digits, and a power of ten. ParseFloat cuts long powers short, which is right of such a text alone: 1 with a million zeros and e-1000000 is 1.
func (n numeral) plainText() string {
	digits := n.whole + n.part
	zeros := len(digits) - len(strings.TrimLeft(digits, "0"))
	if zeros == len(digits) {
		return "0"
	}
	first := len(n.whole) - 1 - zeros + powerOf(n.power)
	return digits[zeros:zeros+1] + "." + digits[zeros+1:] + "e" + strconv.Itoa(first)
}

// powerOf gives the number that a sign and digits say; one that is greater than mostPower in size, as some such number.
func powerOf(s string) int {
	power := 0
	for _, c := range []byte(s[signSize(s):]) {
		if power <= mostPower {
			power = power*10 + int(c-'0')
		}
	}
	if strings.HasPrefix(s, "-") {
		return -power
	}
	return power
}
