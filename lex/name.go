package lex

import (
	"strings"

	"tedder/api"
)

// isLetter tells whether a name may begin with c.
func isLetter(c byte) bool {
	return 'a' <= c && c <= 'z' || 'A' <= c && c <= 'Z' || c == '_'
}

// readName gives the word, the built, the func or the name that s, which begins with a letter, begins with, and its size; 0, if it is barred.
func readName(s string) (api.Token, int) {
	size := 1
	for size < len(s) && (isLetter(s[size]) || isDigit(s[size])) {
		size++
	}
	kind := kindOfName(s[:size])
	switch {
	case kind == "barred":
		return api.Token{}, 0
	case kind == "name" && strings.HasPrefix(s[size:], "("):
		kind = "func"
	}
	return bareToken(kind, s, size)
}

// kindOfName gives what a name is, whatever stands behind it: word, built, barred or name.
func kindOfName(name string) string {
	switch name {
	case "BEGIN", "END", "function", "delete", "in", "if", "else", "while", "do", "for", "break", "continue", "next", "exit", "return", "print", "printf":
		return "word"
	case "length", "substr", "index", "split", "sub", "gsub", "match", "sprintf", "tolower", "toupper", "int":
		return "built"
	case "getline", "system", "close", "fflush", "nextfile", "rand", "srand", "sin", "cos", "atan2", "exp", "log", "sqrt", "func", "ENVIRON", "ARGV", "ARGC":
		return "barred"
	}
	return "name"
}
