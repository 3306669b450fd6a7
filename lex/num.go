package lex

import "strings"

// isDigit tells whether c is a digit of base 10.
func isDigit(c byte) bool {
	return '0' <= c && c <= '9'
}

// numSize gives the size of the longest num that s begins with; 0, if there is none.
func numSize(s string) int {
	digits := digitsSize(s)
	size := digits
	if strings.HasPrefix(s[size:], ".") {
		part := digitsSize(s[size+1:])
		digits += part
		size += 1 + part
	}
	if digits == 0 {
		return 0
	}
	return size + powerSize(s[size:])
}

// digitsSize gives how many digits s begins with.
func digitsSize(s string) int {
	size := 0
	for size < len(s) && isDigit(s[size]) {
		size++
	}
	return size
}

// powerSize gives the size of the e, the sign and the digits that s begins with; 0, if there is no e or no digit.
func powerSize(s string) int {
	if !strings.HasPrefix(s, "e") && !strings.HasPrefix(s, "E") {
		return 0
	}
	size := 1
	if strings.HasPrefix(s[size:], "+") || strings.HasPrefix(s[size:], "-") {
		size++
	}
	digits := digitsSize(s[size:])
	if digits == 0 {
		return 0
	}
	return size + digits
}
