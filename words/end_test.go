package words

import (
	"math"
	"strings"
	"sync"
	"testing"
	"unsafe"

	"tedder/sample"
)

// P0: Sub and Match answer at long texts, and soon, whatever stands in them.
func TestLongTexts(t *testing.T) {
	const long = 1 << 18
	repeat := func(s string) string { return strings.Repeat(s, long) }
	for _, c := range []struct {
		text, repl, s, want string
		count               int
	}{
		{"a", "xy", repeat("a"), repeat("xy"), long},
		{"a", "", repeat("ab"), repeat("b"), long},
		{"a*", "-", repeat("a"), "-", 1},
		{"a+", "&&", repeat("a"), repeat("aa"), 1},
		{"b", "-", repeat("a"), repeat("a"), 0},
		{"a*b", "-", repeat("a"), repeat("a"), 0},
		{"(a+)+b", "-", repeat("a"), repeat("a"), 0},
		{"", "-", repeat("a"), repeat("-a") + "-", long + 1},
		{"b*", "&", repeat("ab"), repeat("ab"), long + 1},
		{"b*", "-", repeat("ab"), "-" + repeat("a-"), long + 1},
		{"$", "-", repeat("a"), repeat("a") + "-", 1},
		{"^a", "-", repeat("a"), "-" + repeat("a")[1:], 1},
		{"a|aa", "&:", repeat("aa"), repeat("aa:"), long},
		{"a", repeat("&"), "bab", "b" + repeat("a") + "b", 1},
		{"a", repeat(`\&`), "bab", "b" + repeat("&") + "b", 1},
		{"a", repeat(`\`), "bab", "b" + strings.Repeat(`\`, long/2) + "b", 1},
		{"x", repeat("&"), "bab", "bab", 0},
	} {
		checkSub(t, c.text, machine(t, c.text), c.repl, c.s, true, c.want, c.count)
	}
	checkMatch(t, "b", machine(t, "b"), repeat("a"), 0, -1)
	checkMatch(t, "b$", machine(t, "b$"), repeat("a")+"b", long+1, 1)
	checkMatch(t, ".*", machine(t, ".*"), repeat("a"), 1, long)
}

// P0: parts of which nothing comes take no time at each match.
func TestManyEmptyParts(t *testing.T) {
	const long = 1 << 16
	s := strings.Repeat("a", long)
	checkSub(t, "()", machine(t, "()"), strings.Repeat("&", long), s, true, s, long+1)
}

// P0: no text is made that is far longer than what may be answered.
func TestTooLongSoon(t *testing.T) {
	const long = 1 << 18
	s, repl := strings.Repeat("a", long), strings.Repeat("&", long)
	for _, text := range []string{"a*", "a", "aa|$", ".{50}"} {
		m := machine(t, text)
		for _, most := range []int{-1, 0, 1, 100, long} {
			for _, all := range []bool{false, true} {
				if got, n, ok := Sub(m, repl, s, all, most); got != "" || n != 0 || ok {
					t.Errorf("%q, %v, at most %d: %d bytes, %d, %v", text, all, most, len(got), n, ok)
				}
			}
		}
	}
}

// P0: Substr answers at long texts, and at all numbers.
func TestGreatSubstr(t *testing.T) {
	const long = 1 << 20
	s := strings.Repeat("\xffk", long)
	for _, c := range []struct {
		m, n float64
		size int
	}{{1, inf, 2 * long}, {long + 1, long, long}, {2 * long, 1, 1}, {2 * long, 9, 1}, {2*long + 1, 9, 0}, {-long, long + 2, 1}, {1, math.MaxInt64, 2 * long}} {
		if got := Substr(s, c.m, c.n, true); len(got) != c.size {
			t.Errorf("%v, %v: %d bytes, not %d", c.m, c.n, len(got), c.size)
		}
	}
}

// P0: there is an answer whatever bytes the texts have, and nothing beside false.
func TestAnyBytes(t *testing.T) {
	var b []byte
	for _, bits := range sample.Bits(30000) {
		b = append(b, byte(bits>>40))
	}
	for _, text := range []string{"", "[\\0-\\100]*", "[^a]", "^.$", ".*\x80", `\377+`, "(\n|$)", "[&\\\\]"} {
		m := machine(t, text)
		for i := 0; i+60 < len(b); i += 31 {
			s, repl := string(b[i:i+int(b[i])%40]), string(b[i+40:i+40+int(b[i+1])%20])
			checkPlain(t, text, m, repl, s)
			most := int(b[i+2]) % 60
			if got, n, ok := Sub(m, repl, s, true, most); ok && len(got) > most || !ok && (got != "" || n != 0) {
				t.Errorf("%q by %q in %q, at most %d: %q, %d, %v", text, repl, s, most, got, n, ok)
			}
		}
	}
}

// within tells whether the bytes of piece lie in the memory of s.
func within(piece, s string) bool {
	if piece == "" || s == "" {
		return false
	}
	at, from := uintptr(unsafe.Pointer(unsafe.StringData(piece))), uintptr(unsafe.Pointer(unsafe.StringData(s)))
	return at >= from && at < from+uintptr(len(s))
}

// R4: no memory of what is handed in is answered.
func TestOwnAnswers(t *testing.T) {
	s, repl := strings.Clone("hello"), strings.Clone("<jump>")
	for m := -1; m < 7; m++ {
		for n := -1; n < 9; n++ {
			if within(Substr(s, float64(m), float64(n), true), s) || within(Substr(s, float64(m), 0, false), s) {
				t.Errorf("Substr shares memory, from %d, %d bytes", m, n)
			}
		}
	}
	for _, text := range []string{"", "x", "l", "hello", ".*", "$", "^h"} {
		m := machine(t, text)
		for _, all := range []bool{false, true} {
			for _, by := range []string{repl, repl[:0], "&"} {
				if got, _, ok := Sub(m, by, s, all, 100); !ok || within(got, s) || within(got, repl) {
					t.Errorf("Sub shares memory, %q by %q", text, by)
				}
			}
		}
	}
}

// R7: what is asked is answered the same again, also where several ask at once.
func TestSameAnswers(t *testing.T) {
	m := machine(t, "(a|ab)(c|bcd)*$|b+|x*")
	texts := []string{"abcd", "abcdbbb", "xxbb", "", "acccc", "aaaab", "b&b"}
	var all sync.WaitGroup
	for range 8 {
		all.Go(func() {
			for range 200 {
				for i, s := range texts {
					checkPlain(t, "a shared machine", m, "[&]", s)
					checkSubstr(t, s, float64(i)/2, float64(i))
				}
			}
		})
	}
	all.Wait()
}
