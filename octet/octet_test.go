package octet

import (
	"math"
	"math/big"
	"strings"
	"testing"

	"tedder/sample"
)

const (
	smallLetters = "abcdefghijklmnopqrstuvwxyz"
	greatLetters = "ABCDEFGHIJKLMNOPQRSTUVWXYZ"
)

// P1.1: Upper and Lower change letters alone.
func TestUpperAndLower(t *testing.T) {
	for _, c := range []struct{ in, upper, lower string }{
		{"", "", ""},
		{"Hello, World 09", "HELLO, WORLD 09", "hello, world 09"},
		{smallLetters, greatLetters, smallLetters},
		{greatLetters, greatLetters, smallLetters},
		{"`{@[_", "`{@[_", "`{@[_"},
		{"\u00e9\u00c9\u00dfx", "\u00e9\u00c9\u00dfX", "\u00e9\u00c9\u00dfx"},
		{"\xff\xe1a\x80Z\xc1", "\xff\xe1A\x80Z\xc1", "\xff\xe1a\x80z\xc1"},
		{"\u017f\u212ak", "\u017f\u212aK", "\u017f\u212ak"},
		{"\x00a\nB", "\x00A\nB", "\x00a\nb"},
	} {
		if got := Upper(c.in); got != c.upper {
			t.Errorf("Upper(%q) is %q, not %q", c.in, got, c.upper)
		}
		if got := Lower(c.in); got != c.lower {
			t.Errorf("Lower(%q) is %q, not %q", c.in, got, c.lower)
		}
	}
}

// P1.1: Upper and Lower keep each byte that is no letter, by itself and in a text of all bytes.
func TestUpperAndLowerOfEachByte(t *testing.T) {
	upper, lower := []byte(sample.AllBytes()), []byte(sample.AllBytes())
	for i := range 26 {
		upper[smallLetters[i]] = greatLetters[i]
		lower[greatLetters[i]] = smallLetters[i]
	}
	if got := Upper(sample.AllBytes()); got != string(upper) {
		t.Errorf("Upper of all bytes is %q", got)
	}
	if got := Lower(sample.AllBytes()); got != string(lower) {
		t.Errorf("Lower of all bytes is %q", got)
	}
	for c := range 256 {
		s := string([]byte{byte(c)})
		if got := Upper(s); got != string(upper[c:c+1]) {
			t.Errorf("Upper(%q) is %q", s, got)
		}
		if got := Lower(s); got != string(lower[c:c+1]) {
			t.Errorf("Lower(%q) is %q", s, got)
		}
	}
}

// P1.1: Index tells the first place, counted in bytes from 1 on.
func TestIndex(t *testing.T) {
	for _, c := range []struct {
		s, t string
		want int
	}{
		{"hello", "h", 1},
		{"hello", "l", 3},
		{"hello", "o", 5},
		{"hello", "hello", 1},
		{"banana", "an", 2},
		{"banana", "nab", 0},
		{"aab", "ab", 2},
		{"hello", "H", 0},
		{"hello", "hello!", 0},
		{"hello", "", 0},
		{"", "", 0},
		{"", "a", 0},
		{"\u00e9a", "a", 3},
		{"\u00e9", "\xa9", 2},
		{"\xff\xfe", "\xfe", 2},
		{"\xff\xfe", "\ufffd", 0},
		{"a\x00b", "\x00", 2},
		{strings.Repeat("a", 1000) + "b", "ab", 1000},
	} {
		if got := Index(c.s, c.t); got != c.want {
			t.Errorf("Index(%q, %q) is %d, not %d", c.s, c.t, got, c.want)
		}
	}
}

// plainIndex asks each place, one by one.
func plainIndex(s, t string) int {
	for i := 0; t != "" && i+len(t) <= len(s); i++ {
		if s[i:i+len(t)] == t {
			return i + 1
		}
	}
	return 0
}

// P1.1: Index of all small texts is what asking each place tells.
func TestIndexOfSmallTexts(t *testing.T) {
	for _, s := range sample.Texts("ab\xc3", 5) {
		for _, part := range sample.Texts("ab\xc3", 3) {
			if got, want := Index(s, part), plainIndex(s, part); got != want {
				t.Errorf("Index(%q, %q) is %d, not %d", s, part, got, want)
			}
		}
	}
}

// P1.1: Cut gives the bytes from a place on, also where places and counts are none of the text's.
func TestCut(t *testing.T) {
	for _, c := range []struct {
		s       string
		from, n int
		want    string
	}{
		{"hello", 1, 5, "hello"},
		{"hello", 2, 3, "ell"},
		{"hello", 5, 1, "o"},
		{"hello", 5, 2, "o"},
		{"hello", 4, 99, "lo"},
		{"hello", 0, 3, "he"},
		{"hello", -1, 3, "h"},
		{"hello", -2, 3, ""},
		{"hello", -9, 99, "hello"},
		{"hello", 3, 0, ""},
		{"hello", 3, -1, ""},
		{"hello", -3, -1, ""},
		{"hello", 6, 1, ""},
		{"hello", 99, 1, ""},
		{"", 1, 1, ""},
		{"", 0, 5, ""},
		{"h\u00e9llo", 2, 1, "\xc3"},
		{"\xff\xfe\xfd", 2, 2, "\xfe\xfd"},
		{"hello", math.MaxInt, math.MaxInt, ""},
		{"hello", math.MinInt, math.MinInt, ""},
		{"hello", math.MinInt, math.MaxInt, ""},
		{"hello", math.MaxInt, math.MinInt, ""},
		{"hello", 2, math.MaxInt, "ello"},
		{"hello", 5, math.MaxInt, "o"},
		{"hello", 6, math.MaxInt, ""},
		{"hello", 0, math.MaxInt, "hello"},
		{"hello", -5, math.MaxInt, "hello"},
		{"hello", 3 - math.MaxInt, math.MaxInt, "he"},
		{"hello", 1, math.MinInt, ""},
	} {
		if got := Cut(c.s, c.from, c.n); got != c.want {
			t.Errorf("Cut(%q, %d, %d) is %q, not %q", c.s, c.from, c.n, got, c.want)
		}
	}
}

// plainCut asks of each place whether it is meant, with numbers that have no bound.
func plainCut(s string, from, n int) string {
	first := big.NewInt(int64(from))
	end := new(big.Int).Add(first, big.NewInt(int64(n)))
	var b []byte
	for i := range len(s) {
		place := big.NewInt(int64(i) + 1)
		if place.Cmp(first) >= 0 && place.Cmp(end) < 0 {
			b = append(b, s[i])
		}
	}
	return string(b)
}

// edges gives integers about 0, and about the least and the greatest one.
func edges() []int {
	var l []int
	for i := range 10 {
		l = append(l, i, -i-1, math.MaxInt-i, math.MinInt+i)
	}
	return l
}

// P1.1: Cut reckons without a bound.
func TestCutWithoutABound(t *testing.T) {
	for size := range 7 {
		s := "abcdef"[:size]
		for _, from := range edges() {
			for _, n := range edges() {
				if got, want := Cut(s, from, n), plainCut(s, from, n); got != want {
					t.Errorf("Cut(%q, %d, %d) is %q, not %q", s, from, n, got, want)
				}
			}
		}
	}
}

// P0: each call ends and none panics at long texts and texts of all bytes, and answers the same again.
func TestCallsEnd(t *testing.T) {
	for _, s := range []string{"", sample.AllBytes(), strings.Repeat("\xf0\x9f\x98", 20000), strings.Repeat("a\u00e9\"", 20000)} {
		for _, part := range []string{"", s, s + "x", "\xff"} {
			if Index(s, part) != Index(s, part) {
				t.Error("Index answers two things")
			}
		}
		for _, from := range edges() {
			for _, n := range edges() {
				if Cut(s, from, n) != Cut(s, from, n) {
					t.Error("Cut answers two things")
				}
			}
		}
		if Upper(s) != Upper(s) || Lower(s) != Lower(s) || Show(s) != Show(s) {
			t.Error("Upper, Lower or Show answers two things")
		}
	}
}
