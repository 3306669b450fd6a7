package ere

import (
	"strings"

	"tedder/api"
)

// reader goes through an expression's text from its first byte to its last one.
type reader struct {
	text  string
	place int // of the byte that is read next
	deep  int // groups that are open
}

// rest gives what isn't read yet.
func (r *reader) rest() string {
	return r.text[r.place:]
}

// done tells whether all is read.
func (r *reader) done() bool {
	return r.place == len(r.text)
}

// at tells whether the next byte is c.
func (r *reader) at(c byte) bool {
	return !r.done() && r.text[r.place] == c
}

// sees tells whether s comes next.
func (r *reader) sees(s string) bool {
	return strings.HasPrefix(r.rest(), s)
}

// next reads a byte; there is one.
func (r *reader) next() byte {
	c := r.text[r.place]
	r.place++
	return c
}

// take reads the next byte, if it is c, and tells so.
func (r *reader) take(c byte) bool {
	if !r.at(c) {
		return false
	}
	r.place++
	return true
}

// digit reads a digit below base, and gives its number; false, if none comes next.
func (r *reader) digit(base int) (int, bool) {
	if r.done() {
		return 0, false
	}
	// What is below '0' comes out as a great number.
	n := int(r.text[r.place] - '0')
	if n >= base {
		return 0, false
	}
	r.place++
	return n, true
}

// escape reads what is behind a \, and gives the byte that is meant.
func (r *reader) escape() (byte, int) {
	if r.done() {
		return 0, api.EreEscape
	}
	if c, ok := r.octal(); ok {
		return c, 0
	}
	c := r.next()
	switch c {
	case 'a':
		return '\a', 0
	case 'b':
		return '\b', 0
	case 'f':
		return '\f', 0
	case 'n':
		return '\n', 0
	case 'r':
		return '\r', 0
	case 't':
		return '\t', 0
	case 'v':
		return '\v', 0
	}
	return c, 0
}

// octal reads up to three digits of base 8, and gives the byte of their number modulo 256; false, if there is no digit.
func (r *reader) octal() (byte, bool) {
	sum, some := 0, false
	for range 3 {
		n, ok := r.digit(8)
		if !ok {
			break
		}
		sum, some = sum*8+n, true
	}
	return byte(sum), some
}
