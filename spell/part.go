package spell

import (
	"math"
	"strings"

	"tedder/value"
)

// speller goes through a format once, from its beginning on.
type speller struct {
	rest string        // what wasn't read yet of the format
	args []value.Value // those that weren't taken yet
	conv string        // how numbers are made texts
	text strings.Builder
	most int // bytes of the text
}

// step does the next conversion, or all up to it; false, if nothing comes of it.
func (s *speller) step() bool {
	plain, _, _ := strings.Cut(s.rest, "%")
	if plain != "" {
		s.rest = s.rest[len(plain):]
		return s.write(plain)
	}
	if rest, ok := strings.CutPrefix(s.rest, "%%"); ok {
		s.rest = rest
		return s.write("%")
	}
	s.rest = s.rest[len("%"):]
	return s.convert()
}

// convert does the conversion whose % was read; false, if it isn't one, or its argument isn't there, or isn't one for it.
func (s *speller) convert() bool {
	c, ok := s.readConversion()
	if !ok {
		return false
	}
	v, ok := s.take()
	if !ok {
		return false
	}
	p, ok := c.piece(v, s.conv)
	return ok && s.fill(c, p)
}

// take gives the next argument; false, if there is none.
func (s *speller) take() (value.Value, bool) {
	if len(s.args) == 0 {
		return nil, false
	}
	v := s.args[0]
	s.args = s.args[1:]
	return v, true
}

// takeInteger gives the next argument's number, cut; false, if there is none, or it is no number.
func (s *speller) takeInteger() (float64, bool) {
	v, ok := s.take()
	if !ok {
		return 0, false
	}
	x := math.Trunc(value.Number(v))
	return x, !math.IsNaN(x)
}

// write puts the parts behind the text; false, if it would be too long.
func (s *speller) write(parts ...string) bool {
	for _, part := range parts {
		if len(part) > s.most-s.text.Len() {
			return false
		}
		s.text.WriteString(part)
	}
	return true
}

// fill writes p at the width that c asks for.
func (s *speller) fill(c conversion, p piece) bool {
	room := max(c.width-len(p.head)-len(p.body), 0)
	switch {
	case c.has("-"):
		return s.write(p.head, p.body, strings.Repeat(" ", room))
	case c.has("0") && p.zeros:
		return s.write(p.head, strings.Repeat("0", room), p.body)
	default:
		return s.write(strings.Repeat(" ", room), p.head, p.body)
	}
}
