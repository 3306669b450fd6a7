// Package sample: what the tests of several layers try their calls at.
package sample

// Texts gives all texts of at most size bytes out of alphabet.
func Texts(alphabet string, size int) []string {
	all := []string{""}
	last := all
	for range size {
		var next []string
		for _, s := range last {
			for i := range len(alphabet) {
				next = append(next, s+alphabet[i:i+1])
			}
		}
		all = append(all, next...)
		last = next
	}
	return all
}

// AllBytes gives a text of every byte, rising.
func AllBytes() string {
	var b []byte
	for c := range 256 {
		b = append(b, byte(c))
	}
	return string(b)
}

// Bits gives a long row of mixed bits, the same each time.
func Bits(count int) []uint64 {
	var l []uint64
	state := uint64(1)
	for range count {
		state = state*6364136223846793005 + 1442695040888963407
		l = append(l, state^state>>29)
	}
	return l
}
