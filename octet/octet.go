// Package octet: texts of bytes (chapter 01-octet).
package octet

import "strings"

// smallBit is what a small letter's byte has beyond its great one's.
const smallBit = 'a' - 'A'

// Upper gives s with each letter as the great one.
func Upper(s string) string {
	b := []byte(s)
	for i, c := range b {
		if 'a' <= c && c <= 'z' {
			b[i] = c - smallBit
		}
	}
	return string(b)
}

// Lower gives s with each letter as the small one.
func Lower(s string) string {
	b := []byte(s)
	for i, c := range b {
		if 'A' <= c && c <= 'Z' {
			b[i] = c + smallBit
		}
	}
	return string(b)
}

// Index gives the place, from 1 on, at which t stands in s first; 0, if nowhere, or t is empty.
func Index(s, t string) int {
	if t == "" {
		return 0
	}
	return strings.Index(s, t) + 1
}

// Cut gives the bytes of s whose places, from 1 on, are from at least, and below from + n.
func Cut(s string, from, n int) string {
	if n <= 0 {
		return ""
	}
	first := max(from, 1)
	end := endOf(len(s), from, n)
	if end <= first {
		return ""
	}
	// A copy, so that a short piece doesn't keep a long text in memory.
	return strings.Clone(s[first-1 : end-1])
}

// endOf gives the lesser of from + n and size + 1, for an n above 0.
func endOf(size, from, n int) int {
	// The sum may be more than an int holds, so the room that is left is asked first.
	if from > 0 && n > size-from {
		return size + 1
	}
	return min(from+n, size+1)
}
