package ere

import (
	"strings"

	"tedder/api"
)

// byteSet tells of each byte whether it is in a set.
type byteSet [256]bool

// add puts the bytes from lo to hi into s.
func (s *byteSet) add(lo, hi byte) {
	for c := int(lo); c <= int(hi); c++ {
		s[c] = true
	}
}

// others gives the set of all bytes that aren't in s.
func (s byteSet) others() byteSet {
	for c := range s {
		s[c] = !s[c]
	}
	return s
}

// text gives the bytes of s, rising.
func (s byteSet) text() string {
	var b []byte
	for c, in := range s {
		if in {
			b = append(b, byte(c))
		}
	}
	return string(b)
}

// bracket reads what is behind a [, and its ].
func (r *reader) bracket() (part, int) {
	not := r.take('^')
	var set byteSet
	// A ] right at the beginning is an item like others.
	for first := true; first || !r.take(']'); first = false {
		if fault := r.item(&set); fault != 0 {
			return part{}, fault
		}
	}
	if not {
		set = set.others()
	}
	return setOf(set), 0
}

// item reads an item, and puts what it stands for into set.
func (r *reader) item(set *byteSet) int {
	if r.sees("[:") {
		return r.classItem(set)
	}
	lo, fault := r.itemByte()
	hi := lo
	if fault == 0 && r.atRange() {
		r.next()
		hi, fault = r.rangeEnd()
	}
	if fault != 0 {
		return fault
	}
	if lo > hi {
		return api.EreBracket
	}
	set.add(lo, hi)
	return 0
}

// itemByte reads an item that is a byte.
func (r *reader) itemByte() (byte, int) {
	if r.done() {
		return 0, api.EreBracket
	}
	if r.take('\\') {
		return r.escape()
	}
	return r.next(), 0
}

// atRange tells whether a - comes next that, behind an item, makes a range of it.
func (r *reader) atRange() bool {
	return r.at('-') && !r.sees("-]")
}

// rangeEnd reads the item behind the - of a range.
func (r *reader) rangeEnd() (byte, int) {
	if r.sees("[:") {
		return 0, api.EreBracket
	}
	return r.itemByte()
}

// classItem reads a class, and puts its bytes into set.
func (r *reader) classItem(set *byteSet) int {
	name, behind, ok := strings.Cut(r.rest()[len("[:"):], ":]")
	pairs := classPairs(name)
	if !ok || pairs == "" {
		return api.EreBracket
	}
	r.place = len(r.text) - len(behind)
	if r.atRange() {
		return api.EreBracket
	}
	for i := 0; i < len(pairs); i += 2 {
		set.add(pairs[i], pairs[i+1])
	}
	return 0
}

// classPairs gives the bytes of a class as pairs of a first and a last one; nothing, if there is no class of that name.
func classPairs(name string) string {
	switch name {
	case "alpha":
		return "AZaz"
	case "digit":
		return "09"
	case "alnum":
		return "09AZaz"
	case "upper":
		return "AZ"
	case "lower":
		return "az"
	case "space":
		return "\t\r  "
	case "blank":
		return "\t\t  "
	case "punct":
		return "!/:@[`{~"
	case "print":
		return " ~"
	case "graph":
		return "!~"
	case "cntrl":
		return "\x00\x1f\x7f\x7f"
	case "xdigit":
		return "09AFaf"
	}
	return ""
}
