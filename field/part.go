package field

import (
	"strings"

	"tedder/ere"
	"tedder/match"
)

// parted gives the fields of s, which are pieces of it; false, if sep is used as an expression and is none.
func parted(s, sep string, lines bool) ([]string, bool) {
	if len(sep) > 1 {
		return byExpression(s, sep, lines)
	}
	switch {
	case s == "":
		return nil, true
	case sep == "":
		return bytesOf(s), true
	case sep == " ":
		return strings.FieldsFunc(s, isBlank), true
	}
	return byByte(s, sep[0], lines), true
}

// bytesOf gives each byte of s.
func bytesOf(s string) []string {
	fields := make([]string, len(s))
	for i := range fields {
		fields[i] = s[i : i+1]
	}
	return fields
}

// isBlank tells whether c parts fields where the separator is a blank.
func isBlank(c rune) bool {
	return c == ' ' || c == '\t' || c == '\n'
}

// byByte gives what stands between bytes sep, and bytes 10, too, with lines.
func byByte(s string, sep byte, lines bool) []string {
	var fields []string
	from := 0
	for i := range len(s) {
		if s[i] == sep || lines && s[i] == '\n' {
			fields = append(fields, s[from:i])
			from = i + 1
		}
	}
	return append(fields, s[from:])
}

// byExpression gives what stands between matches of sep, and bytes 10, too, with lines; false, if sep is no expression.
func byExpression(s, sep string, lines bool) ([]string, bool) {
	tree, fault := ere.Parse(sep)
	if fault != 0 {
		return nil, false
	}
	machine := match.New(tree)
	if machine == nil {
		return nil, false
	}
	if s == "" {
		return nil, true
	}
	var fields []string
	f := newFinder(s, machine, lines)
	for from := 0; ; {
		found := f.next(from)
		fields = append(fields, s[from:found.from])
		if found.from == len(s) {
			return fields, true
		}
		from = found.to
	}
}
