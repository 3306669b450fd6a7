package lex

import (
	"strings"

	"tedder/api"
)

// quoted gives what stands between the byte that s begins with and the next such byte that isn't taken by a \ ahead of it; false, if there is none.
func quoted(s string) (string, bool) {
	for i := 1; i < len(s); i++ {
		switch s[i] {
		case s[0]:
			return s[1:i], true
		case '\\':
			i++
		}
	}
	return "", false
}

// readStr gives the str that s begins with, and its size; 0, if it doesn't end, or a line ends in it.
func readStr(s string) (api.Token, int) {
	inner, ok := quoted(s)
	if !ok {
		return api.Token{}, 0
	}
	text, ok := meantByStr(inner)
	if !ok {
		return api.Token{}, 0
	}
	return api.Token{Kind: "str", Text: text}, len(inner) + 2
}

// meantByStr gives what s stands for between bytes 34, where each \ has a byte behind it; false, if a byte 10 stands bare in it.
func meantByStr(s string) (string, bool) {
	var b []byte
	for i := 0; i < len(s); {
		switch s[i] {
		case '\n':
			return "", false
		case '\\':
			meant, size := escape(s[i:])
			b = append(b, meant...)
			i += size
		default:
			b = append(b, s[i])
			i++
		}
	}
	return string(b), true
}

// escape gives what the \ that s begins with and what is behind it (a byte at least) stand for in a str, and how many bytes those are.
func escape(s string) (string, int) {
	if c, digits := octal(s[1:]); digits > 0 {
		return string([]byte{c}), 1 + digits
	}
	switch s[1] {
	case '"', '\\', '/':
		return s[1:2], 2
	case 'a':
		return "\a", 2
	case 'b':
		return "\b", 2
	case 'f':
		return "\f", 2
	case 'n':
		return "\n", 2
	case 'r':
		return "\r", 2
	case 't':
		return "\t", 2
	case 'v':
		return "\v", 2
	case '\n':
		return "", 2
	}
	return s[:2], 2
}

// octal gives the number, modulo 256, of up to three digits of base 8 that s begins with, and how many those are.
func octal(s string) (byte, int) {
	var number byte
	size := 0
	for size < min(3, len(s)) && '0' <= s[size] && s[size] <= '7' {
		// The wrap-round of bytes is the modulo.
		number = number*8 + (s[size] - '0')
		size++
	}
	return number, size
}

// readEre gives the ere that s begins with, and its size; 0, if it doesn't end, or a line ends in it.
func readEre(s string) (api.Token, int) {
	inner, ok := quoted(s)
	if !ok || strings.Contains(inner, "\n") {
		return api.Token{}, 0
	}
	return api.Token{Kind: "ere", Text: meantByEre(inner)}, len(inner) + 2
}

// meantByEre gives s, where each \ has a byte behind it, but of a \ and a byte 47 that byte alone.
func meantByEre(s string) string {
	var b []byte
	for i := 0; i < len(s); i++ {
		if s[i] == '\\' {
			i++
			if s[i] != '/' {
				b = append(b, '\\')
			}
		}
		b = append(b, s[i])
	}
	return string(b)
}
