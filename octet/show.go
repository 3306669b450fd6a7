package octet

import (
	"strconv"
	"strings"
	"unicode/utf8"
)

const (
	firstPlain = 32  // the first byte that may be shown as it is
	lastPlain  = 126 // the last one
	firstWide  = 160 // the first rune that is shown by its number
)

// Show gives s for a reader, in bytes from 32 to 126 alone.
func Show(s string) string {
	var b []byte
	for i, r := range s {
		size := runeSize(s[i:], r)
		switch {
		case r == '"' || r == '\\':
			b = append(b, '\\', byte(r))
		case firstPlain <= r && r <= lastPlain:
			b = append(b, byte(r))
		case r >= firstWide && size > 0:
			b = appendWide(b, r)
		default:
			// A byte that is no right encoding stands for itself alone.
			b = appendOctal(b, s[i:i+max(size, 1)])
		}
	}
	return string(b)
}

// runeSize gives how many bytes encode r, which a range loop found at the beginning of s; 0, if it stands there for a byte of no right encoding.
func runeSize(s string, r rune) int {
	// The loop tells such a byte as U+FFFD, which a text may rightly have, too.
	if r == utf8.RuneError && !strings.HasPrefix(s, string(utf8.RuneError)) {
		return 0
	}
	return utf8.RuneLen(r)
}

// appendWide adds <U+, the number of r in four digits of base 16 at least, and >.
func appendWide(b []byte, r rune) []byte {
	digits := Upper(strconv.FormatInt(int64(r), 16))
	b = append(b, "<U+"...)
	for range 4 - len(digits) {
		b = append(b, '0')
	}
	b = append(b, digits...)
	return append(b, '>')
}

// appendOctal adds each byte of s as a byte 92 and three digits of base 8.
func appendOctal(b []byte, s string) []byte {
	for i := range len(s) {
		c := s[i]
		b = append(b, '\\', '0'+c>>6, '0'+c>>3&7, '0'+c&7)
	}
	return b
}
