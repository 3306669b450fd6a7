package value

import "strings"

// Compare tells by -1, 0 or 1 how a stands to b: as numbers, if neither is a text alone, else as texts; 0 and false, if a text isn't made by the format conv.
func Compare(a, b Value, conv string) (int, bool) {
	if !textAlone(a) && !textAlone(b) {
		return compareNumbers(numberOf(a), numberOf(b)), true
	}
	s, made := textOf(a, conv)
	t, madeToo := textOf(b, conv)
	if !made || !madeToo {
		return 0, false
	}
	return strings.Compare(s, t), true
}

// compareNumbers gives 0, too, if one is no number.
func compareNumbers(x, y float64) int {
	switch {
	case x < y:
		return -1
	case x > y:
		return 1
	}
	return 0
}
