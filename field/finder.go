package field

import (
	"strings"

	"tedder/match"
)

// span is a piece of a text: from a place up to another one.
type span struct {
	from, to int
}

// finder goes through a text's separators: the matches of an expression that aren't empty, and, where they play a part, bytes 10. It does so by two searches, as an expression of both might be too big. What lies ahead is kept: looked for again at each step, it could take far too long.
type finder struct {
	text        string
	machine     *match.Machine
	match, line span // the next one of each; the end of the text, where there is none
}

// newFinder gives a finder at the beginning of s.
func newFinder(s string, machine *match.Machine, lines bool) finder {
	unknown := span{-1, -1}
	f := finder{text: s, machine: machine, match: unknown, line: unknown}
	if !lines {
		f.line = f.end()
	}
	return f
}

// end gives the end of the text, where no separator begins.
func (f *finder) end() span {
	return span{len(f.text), len(f.text)}
}

// next gives the first separator from a place on, or the end.
func (f *finder) next(from int) span {
	if f.match.from < from {
		f.match = f.nextMatch(from)
	}
	if f.line.from < from {
		f.line = f.nextLine(from)
	}
	// Where both begin at one place, no match is shorter than a byte.
	if f.match.from <= f.line.from {
		return f.match
	}
	return f.line
}

// nextMatch gives the first match from a place on that isn't empty, or the end.
func (f *finder) nextMatch(from int) span {
	for {
		place, size, ok := f.machine.Find(f.text, from)
		if !ok {
			return f.end()
		}
		if size > 0 {
			return span{place, place + size}
		}
		from = place + 1
	}
}

// nextLine gives the first byte 10 from a place on, or the end.
func (f *finder) nextLine(from int) span {
	i := strings.IndexByte(f.text[from:], '\n')
	if i < 0 {
		return f.end()
	}
	return span{from + i, from + i + 1}
}
