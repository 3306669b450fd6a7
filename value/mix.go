package value

import "math"

// mostPower is the greatest size of a power that is reckoned.
const mostPower = 1024

// Mix gives what the op makes of the numbers of a and b; none and false, if it makes nothing of them, or is no such op.
func Mix(op string, a, b Value) (Value, bool) {
	x, ok := mixed(op, numberOf(a), numberOf(b))
	if !ok {
		return none{}, false
	}
	return num(x), true
}

// mixed gives what the op makes of x and y.
func mixed(op string, x, y float64) (float64, bool) {
	switch op {
	case "+":
		return x + y, true
	case "-":
		return x - y, true
	case "*":
		return x * y, true
	case "/":
		return x / y, y != 0
	case "%":
		return math.Mod(x, y), y != 0
	case "^":
		return Power(x, y)
	}
	return 0, false
}

// Power gives x times itself, y times, rounded each time; of a y below 0, 1 over that of -y; 0 and false, if y isn't an integer of mostPower at most in size.
func Power(x, y float64) (float64, bool) {
	// What is no number isn't equal to itself, so it is no integer, too.
	if math.Trunc(y) != y || math.Abs(y) > mostPower {
		return 0, false
	}
	product := 1.0
	for range int(math.Abs(y)) {
		product *= x
	}
	if y < 0 {
		return 1 / product, true
	}
	return product, true
}
