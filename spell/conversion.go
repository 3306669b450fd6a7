package spell

import (
	"strings"

	"tedder/api"
)

const (
	maxWidth = 200
	// noPrec stands for a precision that isn't there.
	noPrec  = -1
	letters = "dioxXueEfFgGcs"
)

// conversion: what a format asks for of one argument.
type conversion struct {
	flags       string
	width, prec int
	letter      byte
}

// has tells whether the flag is there.
func (c conversion) has(flag string) bool { return strings.Contains(c.flags, flag) }

// readConversion reads what is behind a %, with the arguments that a * takes; false, if it is no conversion.
func (s *speller) readConversion() (conversion, bool) {
	behind := strings.TrimLeft(s.rest, "-+ 0#")
	c := conversion{flags: s.rest[:len(s.rest)-len(behind)], prec: noPrec}
	s.rest = behind
	if !s.readWidth(&c) || !s.readPrec(&c) {
		return conversion{}, false
	}
	if s.rest == "" || strings.IndexByte(letters, s.rest[0]) < 0 {
		return conversion{}, false
	}
	c.letter = s.rest[0]
	s.rest = s.rest[1:]
	return c, true
}

// readWidth reads a width into c, if there is one; false, if it is out of bounds.
func (s *speller) readWidth(c *conversion) bool {
	rest, star := strings.CutPrefix(s.rest, "*")
	if !star {
		c.width, s.rest = leadingNumber(s.rest, maxWidth)
		return c.width <= maxWidth
	}
	s.rest = rest
	x, ok := s.takeInteger()
	if !ok || x < -maxWidth || x > maxWidth {
		return false
	}
	c.width = int(x)
	if c.width < 0 {
		c.flags += "-"
		c.width = -c.width
	}
	return true
}

// readPrec reads a point and what is behind it into c, if there is one; false, if it is out of bounds.
func (s *speller) readPrec(c *conversion) bool {
	rest, point := strings.CutPrefix(s.rest, ".")
	if !point {
		return true
	}
	rest, star := strings.CutPrefix(rest, "*")
	if !star {
		c.prec, s.rest = leadingNumber(rest, api.MaxPrec)
		return c.prec <= api.MaxPrec
	}
	s.rest = rest
	x, ok := s.takeInteger()
	if !ok || x > api.MaxPrec {
		return false
	}
	// Any number below 0 is as good as no point, the infinite one, too.
	c.prec = int(max(x, noPrec))
	return true
}

// leadingNumber gives the number of the digits that s begins with (0 without any, some number above most of one that is greater), and what is behind them.
func leadingNumber(s string, most int) (int, string) {
	n, i := 0, 0
	for i < len(s) && '0' <= s[i] && s[i] <= '9' {
		if n <= most {
			n = n*10 + int(s[i]-'0')
		}
		i++
	}
	return n, s[i:]
}
