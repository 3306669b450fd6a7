package input

import (
	"strings"

	"tedder/lex"
)

// isName tells whether s is letters, digits and _, with no digit first.
func isName(s string) bool {
	// No token is as long as a name may be here, so lex isn't asked.
	for i := range len(s) {
		if !isLetter(s[i]) && (i == 0 || !isDigit(s[i])) {
			return false
		}
	}
	return s != ""
}

// isLetter tells whether a name may begin with c.
func isLetter(c byte) bool {
	return 'a' <= c && c <= 'z' || 'A' <= c && c <= 'Z' || c == '_'
}

func isDigit(c byte) bool {
	return '0' <= c && c <= '9'
}

// meant gives what s stands for between quotes, where bytes 34 and 10 may stand bare.
func meant(s string) string {
	var b strings.Builder
	for {
		plain, rest, found := strings.Cut(s, `\`)
		b.WriteString(plain)
		if !found {
			return b.String()
		}
		size := escapedSize(rest)
		b.WriteString(escaped(rest[:size]))
		s = rest[size:]
	}
}

// escapedSize gives how many bytes of s, which stands right behind a \, go together with it.
func escapedSize(s string) int {
	if s == "" || s[0] == '\n' {
		return 0
	}
	size := 0
	for size < min(3, len(s)) && '0' <= s[size] && s[size] <= '7' {
		size++
	}
	return max(size, 1)
}

// escaped gives what a \ and s, which goes together with it, stand for.
func escaped(s string) string {
	if s == "" {
		return `\`
	}
	// One at a time, as the text may be longer than a program.
	tokens, _ := lex.Lex(`"\` + s + `"`)
	return tokens[0].Text
}
