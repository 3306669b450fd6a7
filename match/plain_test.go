package match

import (
	"strings"
	"testing"

	"tedder/api"
	"tedder/ere"
	"tedder/sample"
)

// places is a set of places of a text: place i is in it, if bit i is 1.
type places uint64

// plainEnds says the chapter's words again: the places to which e matches in s from those of from.
func plainEnds(e api.Ere, s string, from places) places {
	switch e.Op {
	case "set":
		var to places
		for i := range len(s) {
			if from>>i&1 == 1 && strings.IndexByte(e.Set, s[i]) >= 0 {
				to |= 1 << (i + 1)
			}
		}
		return to
	case "bol":
		return from & 1
	case "eol":
		return from & (1 << len(s))
	case "cat":
		for _, kid := range e.Kids {
			from = plainEnds(kid, s, from)
		}
		return from
	case "alt":
		var to places
		for _, kid := range e.Kids {
			to |= plainEnds(kid, s, from)
		}
		return to
	}
	for range e.Lo {
		from = plainEnds(e.Kids[0], s, from)
	}
	to := from
	for times := e.Lo; times < e.Hi || e.Hi < 0; times++ {
		from = plainEnds(e.Kids[0], s, from)
		if from&^to == 0 && e.Hi < 0 {
			break
		}
		to |= from
	}
	return to
}

// plainFind says the chapter's words of Find again; the length is below 0, if there is none.
func plainFind(e api.Ere, s string, from int) (int, int) {
	for i := max(from, 0); from >= 0 && i <= len(s); i++ {
		to := plainEnds(e, s, 1<<i)
		for j := len(s); j >= i; j-- {
			if to>>j&1 == 1 {
				return i, j - i
			}
		}
	}
	return 0, none
}

// plainSize says the third chapter's words of sizes again.
func plainSize(e api.Ere) int {
	sum := 0
	for _, kid := range e.Kids {
		sum += plainSize(kid)
	}
	switch {
	case e.Op == "cat":
		return sum
	case e.Op == "alt":
		return sum + 1
	case e.Op != "rep":
		return 1
	case e.Hi == -1:
		return sum*(e.Lo+1) + 1
	}
	return sum*max(1, e.Hi) + 1
}

// checkPlain asks that the machine of e answers in s, from all places, what the chapter's words tell.
func checkPlain(t *testing.T, e api.Ere, m *Machine, s string) {
	t.Helper()
	for from := -1; from <= len(s)+1; from++ {
		place, size := plainFind(e, s, from)
		i, n, ok := m.Find(s, from)
		if ok != (size >= 0) || ok && (i != place || n != size) || !ok && (i != 0 || n != 0) {
			t.Fatalf("%s in %q from %d: %d, %d, %v, not %d, %d", shown(e), s, from, i, n, ok, place, size)
		}
	}
	want := plainEnds(e, s, 1)>>len(s)&1 == 1
	if m.Whole(s) != want {
		t.Fatalf("%s and the whole of %q: not %v", shown(e), s, want)
	}
}

// leaves gives trees without right Kids beneath them.
func leaves() []api.Ere {
	return []api.Ere{set("a"), set("b"), set("ab"), set(""), bol(), eol(), cat()}
}

// bounds gives bounds of reps.
func bounds() [][2]int {
	return [][2]int{{0, -1}, {1, -1}, {0, 1}, {0, 0}, {2, 2}, {1, 3}, {2, -1}, {0, 2}}
}

// around gives trees with the kids in them.
func around(one, other api.Ere) []api.Ere {
	l := []api.Ere{cat(one, other), alt(one, other), cat(one, set("b"), other), alt(one, cat(), other)}
	for _, b := range bounds() {
		l = append(l, rep(b[0], b[1], one))
	}
	return l
}

// P4.1: machines of all small trees answer what the chapter's words tell.
func TestSmallTrees(t *testing.T) {
	texts := sample.Texts("ab", 4)
	var small []api.Ere
	for _, one := range leaves() {
		for _, other := range leaves() {
			small = append(small, around(one, other)...)
		}
	}
	bits := sample.Bits(8 * len(small))
	for i, e := range append(small, leaves()...) {
		m := made(t, e)
		for _, s := range texts {
			checkPlain(t, e, m, s)
		}
		if i < len(small) {
			bits = bits[1:]
			for _, e := range around(e, small[int(bits[0]>>20)%len(small)]) {
				m := made(t, e)
				for _, s := range texts[:15] {
					checkPlain(t, e, m, s)
				}
			}
		}
	}
}

// grown gives a mixed tree out of bits, and what is left of them.
func grown(bits []uint64, deep int) (api.Ere, []uint64) {
	pick := int(bits[0]>>33) % 10
	bits = bits[1:]
	if deep == 0 || pick < 3 {
		l := leaves()
		return l[int(bits[0]>>33)%len(l)], bits[1:]
	}
	if pick < 6 {
		b := bounds()[int(bits[0]>>33)%8]
		kid, rest := grown(bits[1:], deep-1)
		return rep(b[0], b[1], kid), rest
	}
	var kids []api.Ere
	var kid api.Ere
	count := 1 + int(bits[0]>>33)%3
	for bits = bits[1:]; len(kids) < count; {
		kid, bits = grown(bits, deep-1)
		kids = append(kids, kid)
	}
	if pick < 8 {
		return cat(kids...), bits
	}
	return alt(kids...), bits
}

// P4.1: machines of mixed trees answer what the chapter's words tell.
func TestMixedTrees(t *testing.T) {
	texts := append(sample.Texts("ab", 3), "abab", "aabb", "bbba", "aaaaaaa", "abbabaab", "bababb", "aacab")
	bits := sample.Bits(100000)
	for len(bits) > 1000 {
		var e api.Ere
		e, bits = grown(bits, 4)
		m := made(t, e)
		for _, s := range texts {
			checkPlain(t, e, m, s)
		}
	}
}

// P4.1: there is a machine of mixed trees, where they aren't above MaxEre in size.
func TestMixedSizes(t *testing.T) {
	counts := map[bool]int{}
	bits := sample.Bits(100000)
	for len(bits) > 5000 {
		var e api.Ere
		e, bits = grown(bits, 5)
		around := int(bits[0]>>33) % 256
		e = rep(around, around, e)
		right := plainSize(e) <= api.MaxEre
		counts[right]++
		if (New(e) != nil) != right {
			t.Fatalf("size %d: not %v of %s", plainSize(e), right, shown(e))
		}
	}
	if counts[false] < 100 || counts[true] < 100 {
		t.Error(counts)
	}
}

// P4.1: machines of mixed expressions answer in longer texts what the chapter's words tell.
func TestMixedExpressions(t *testing.T) {
	parts := []string{"a", "b", "ab", "[ab]", "[^a]", ".", "^", "$", "|", "|", "(", "(", ")", ")", "*", "+", "?", "{2}", "{1,3}", "{2,}", "\n", "c", "(a|b)*", "(ab|a)", "()"}
	bits := sample.Bits(300000)
	right := 0
	for len(bits) > 64 {
		text, s := "", ""
		for range int(bits[0]>>40) % 12 {
			bits = bits[1:]
			text += parts[int(bits[0]>>40)%len(parts)]
		}
		for range int(bits[1]>>40) % 30 {
			bits = bits[1:]
			s += "aaabbbc\n"[int(bits[1]>>40)%8:][:1]
		}
		bits = bits[2:]
		if e, fault := ere.Parse(text); fault == 0 {
			right++
			checkPlain(t, e, made(t, e), s)
		}
	}
	if right < 1000 {
		t.Errorf("%d right expressions", right)
	}
}
