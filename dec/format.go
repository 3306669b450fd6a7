package dec

import (
	"math"
	"strconv"
	"strings"

	"tedder/api"
)

// Format gives x as a C program's printf writes it, without a width.
func Format(x float64, verb byte, prec int, alt bool) string {
	switch {
	case math.IsNaN(x):
		return "nan"
	case math.IsInf(x, 1):
		return "inf"
	case math.IsInf(x, -1):
		return "-inf"
	}
	prec = min(max(prec, 0), api.MaxPrec)
	switch verb {
	case 'f', 'F':
		return withoutPower(x, prec, alt)
	case 'e':
		return withPower(x, prec, alt)
	case 'E':
		return strings.ToUpper(withPower(x, prec, alt))
	case 'G':
		return strings.ToUpper(shorter(x, prec, alt))
	default:
		return shorter(x, prec, alt)
	}
}

// withoutPower gives x as f does.
func withoutPower(x float64, prec int, alt bool) string {
	text := strconv.FormatFloat(x, 'f', prec, 64)
	if alt {
		return withPoint(text)
	}
	return text
}

// withPower gives x as e does.
func withPower(x float64, prec int, alt bool) string {
	text := strconv.FormatFloat(x, 'e', prec, 64)
	if alt {
		digits, power, _ := strings.Cut(text, "e")
		return withPoint(digits) + "e" + power
	}
	return text
}

// shorter gives x as g does.
func shorter(x float64, prec int, alt bool) string {
	p := max(prec, 1)
	digits, power, _ := strings.Cut(withPower(x, p-1, alt), "e")
	if first := powerOf(power); -4 <= first && first < p {
		return withoutZeros(withoutPower(x, p-1-first, alt), alt)
	}
	return withoutZeros(digits, alt) + "e" + power
}

// withPoint gives digits with a point at their end, if they have none.
func withPoint(digits string) string {
	if strings.Contains(digits, ".") {
		return digits
	}
	return digits + "."
}

// withoutZeros leaves out the zeros at the end of digits behind a point, and a point with none behind it, but of alt.
func withoutZeros(digits string, alt bool) string {
	if alt || !strings.Contains(digits, ".") {
		return digits
	}
	return strings.TrimSuffix(strings.TrimRight(digits, "0"), ".")
}

// Whole gives the digits of x, if it is an integer below 2^63 in size.
func Whole(x float64) (string, bool) {
	// No number that is nan is equal to itself, so it is none of the integers, too.
	if math.Trunc(x) != x || math.Abs(x) >= 1<<63 {
		return "", false
	}
	return strconv.FormatInt(int64(x), 10), true
}
