package words

import (
	"iter"
	"strings"

	"tedder/match"
)

// matches gives the matches of m in s that are replaced, one behind the other: from which place, and up to which one.
func matches(m *match.Machine, s string) iter.Seq2[int, int] {
	return func(yield func(int, int) bool) {
		last := -1 // where the last match that wasn't empty ended
		for at := 0; ; {
			from, size, ok := m.Find(s, at)
			if !ok {
				return
			}
			to := from + size
			// An empty match right behind one that isn't empty doesn't count.
			if to > last && !yield(from, to) {
				return
			}
			if size > 0 {
				last, at = to, to
			} else {
				at = to + 1
			}
		}
	}
}

// template is what a match is replaced by: parts, with what matched between each two of them.
type template struct {
	parts []string
	empty string // the whole, where what matched is empty
}

// readTemplate reads what & and \ mean in repl.
func readTemplate(repl string) template {
	var parts []string
	var part []byte
	for i := 0; i < len(repl); i++ {
		if repl[i] == '&' {
			parts = append(parts, string(part))
			part = part[:0]
			continue
		}
		if escapes(repl[i:]) {
			i++
		}
		part = append(part, repl[i])
	}
	parts = append(parts, string(part))
	return template{parts, strings.Join(parts, "")}
}

// escapes tells whether s begins with a \ that isn't itself.
func escapes(s string) bool {
	return strings.HasPrefix(s, `\&`) || strings.HasPrefix(s, `\\`)
}

// writer puts a text of at most most bytes together.
type writer struct {
	text strings.Builder
	most int
}

// write puts s behind what there is; false, if that would be too long.
func (w *writer) write(s string) bool {
	if len(s) > w.most-w.text.Len() {
		return false
	}
	w.text.WriteString(s)
	return true
}

// fill writes t with what matched; false, if that would be too long.
func (w *writer) fill(t template, matched string) bool {
	// Any number of parts may make a short text, so they are gone through only where each step adds a byte.
	if matched == "" {
		return w.write(t.empty)
	}
	for i, part := range t.parts {
		if i > 0 && !w.write(matched) || !w.write(part) {
			return false
		}
	}
	return true
}
