package words

import (
	"math"
	"regexp"
	"strings"
	"testing"

	"tedder/ere"
	"tedder/match"
	"tedder/sample"
)

// plainRound gives the nearest integer, of two the even one.
func plainRound(x float64) float64 {
	below := math.Floor(x)
	rest := x - below
	if rest > 0.5 || rest == 0.5 && math.Mod(below, 2) != 0 {
		return below + 1
	}
	return below
}

// plainSubstr asks each place whether it is meant.
func plainSubstr(s string, m, n float64, has bool) string {
	a, b := plainRound(m), plainRound(n)
	if m != m || has && (n != n || a+b != a+b) {
		return ""
	}
	var bytes []byte
	for i := range len(s) {
		place := float64(i + 1)
		if place >= a && (!has || place < a+b) {
			bytes = append(bytes, s[i])
		}
	}
	return string(bytes)
}

// checkSubstr asks for the bytes that the chapter's words tell.
func checkSubstr(t *testing.T, s string, m, n float64) {
	t.Helper()
	for _, has := range []bool{false, true} {
		if got, want := Substr(s, m, n, has), plainSubstr(s, m, n, has); got != want {
			t.Errorf("%q, %v, %v, %v: %q, not %q", s, m, n, has, got, want)
		}
	}
}

// P11.1: Substr of many numbers is what asking each place tells.
func TestManySubstr(t *testing.T) {
	numbers := []float64{inf, -inf, nan, math.MaxFloat64, -math.MaxFloat64, 1 << 53, -1 << 53, 1<<53 + 2, 1 << 62, -1 << 63, 1e300, 5e-324, -5e-324, math.Copysign(0, -1)}
	for i := -40; i <= 40; i++ {
		x := float64(i) / 4
		numbers = append(numbers, x, math.Nextafter(x, inf), math.Nextafter(x, -inf))
	}
	for size := range 7 {
		for _, m := range numbers {
			for _, n := range numbers {
				checkSubstr(t, "abcdef"[:size], m, n)
			}
		}
	}
}

// P11.1: Substr of numbers of any bits is what asking each place tells.
func TestAnyBits(t *testing.T) {
	bits := sample.Bits(40000)
	for i := 0; i+1 < len(bits); i += 2 {
		m, n := math.Float64frombits(bits[i]), math.Float64frombits(bits[i+1])
		checkSubstr(t, "abcdef", m, n)
		checkSubstr(t, "abcdef", -m, m+n)
		checkSubstr(t, "abcdef", float64(bits[i]>>50%97)/8-4, n)
	}
}

// plainReplacement says again what a match is replaced by.
func plainReplacement(repl, matched string) string {
	return strings.NewReplacer(`\&`, "&", `\\`, `\`, "&", matched).Replace(repl)
}

// plainSub says the chapter's words again: place by place, a match or not.
func plainSub(m *match.Machine, repl, s string, all bool) (string, int) {
	out, count, barred := "", 0, -1
	for i := 0; i <= len(s); {
		place, size, ok := m.Find(s, i)
		here := ok && place == i && (size > 0 || i != barred) && (all || count == 0)
		if here {
			out += plainReplacement(repl, s[i:i+size])
			count++
		}
		if here && size > 0 {
			i += size
			barred = i
			continue
		}
		if i < len(s) {
			out += s[i : i+1]
		}
		i++
	}
	return out, count
}

// checkPlain asks for what the chapter's words make of s.
func checkPlain(t *testing.T, text string, m *match.Machine, repl, s string) {
	t.Helper()
	for _, all := range []bool{false, true} {
		want, count := plainSub(m, repl, s, all)
		checkSub(t, text, m, repl, s, all, want, count)
	}
	if place, size, ok := m.Find(s, 0); ok {
		checkMatch(t, text, m, s, place+1, size)
	} else {
		checkMatch(t, text, m, s, 0, -1)
	}
}

// P11.1: what becomes of all small texts is what the chapter's words tell.
func TestSmallTexts(t *testing.T) {
	for _, text := range []string{"", "a", "b", "c", "ab", "aa", "a*", "b+", "(ab)*", "a|ab", "^a", "a$", "^a|b", "b|a$", "^|b", "$|b", "()", "^$", "^a*", "a*$", "(a|b)*b", "a?b?", "[^a]", "..", ".*", "a{2}|$", "x|", "(aa)*", "b*|ab"} {
		m := machine(t, text)
		for _, s := range sample.Texts("abc", 5) {
			checkPlain(t, text, m, "<&>", s)
			checkPlain(t, text, m, "", s)
		}
	}
}

// P11.1: what a match is replaced by is what the chapter's words tell of all small texts.
func TestSmallReplacements(t *testing.T) {
	for _, text := range []string{"b", "b*", "ab|$"} {
		m := machine(t, text)
		for _, repl := range sample.Texts("&\\x", 6) {
			checkPlain(t, text, m, repl, "abb")
		}
	}
}

// mixed gives a text of at most most of the parts, and what is left of the bits.
func mixed(parts []string, most int, bits []uint64) (string, []uint64) {
	s := ""
	for range int(bits[0]>>40) % (most + 1) {
		bits = bits[1:]
		s += parts[int(bits[0]>>40)%len(parts)]
	}
	return s, bits[1:]
}

// P11.1: what becomes of longer texts, by mixed expressions and replacements, is what the chapter's words tell.
func TestMixedExpressions(t *testing.T) {
	inExpression := []string{"a", "b", "ab", "[ab]", "[^a]", ".", "^", "$", "|", "|", "(", ")", "*", "+", "?", "{2}", "{1,3}", "\\n", "(a|b)*", "(ab|a)", "()"}
	inText := []string{"a", "a", "b", "b", "\n", "&", "c", "ab", "\\"}
	inRepl := []string{"a", "&", "&", `\`, `\&`, `\\`, "-", "\n"}
	bits := sample.Bits(200000)
	count := 0
	for len(bits) > 100 {
		var text, repl, s string
		text, bits = mixed(inExpression, 8, bits)
		repl, bits = mixed(inRepl, 6, bits)
		s, bits = mixed(inText, 25, bits)
		if tree, fault := ere.Parse(text); fault == 0 {
			checkPlain(t, text, match.New(tree), repl, s)
			count++
		}
	}
	if count < 1000 {
		t.Errorf("%d right expressions", count)
	}
}

// checkOther asks for what the library's own expressions make of s.
func checkOther(t *testing.T, text, s string) {
	t.Helper()
	plain := regexp.MustCompile("(?s)" + text)
	plain.Longest()
	m := machine(t, text)
	all := plain.FindAllStringIndex(s, -1)
	checkSub(t, text, m, "-", s, true, plain.ReplaceAllLiteralString(s, "-"), len(all))
	checkSub(t, text, m, "<&>", s, true, plain.ReplaceAllString(s, "<${0}>"), len(all))
	if len(all) == 0 {
		checkSub(t, text, m, "-", s, false, s, 0)
		checkMatch(t, text, m, s, 0, -1)
		return
	}
	from, to := all[0][0], all[0][1]
	checkSub(t, text, m, "-", s, false, s[:from]+"-"+s[to:], 1)
	checkMatch(t, text, m, s, from+1, to-from)
}

// P11.1: Sub and Match are what the library's own expressions tell.
func TestOtherSub(t *testing.T) {
	bits := sample.Bits(60000)
	for _, text := range []string{"", "ab", "a+", "b*", "[ab]", "a|ab", "ab|a|aba", "(a|b)+", "(a|b)*", "a.c", "[^abc]", "b(ca)*", "^a|c", "a$|b", "a{2,3}", "(ab|c){2}", ": *", "\n|a", "^", "$", "^|a*", "a*|$", "a?b?c?", "(ab)*|b"} {
		for range 100 {
			var s string
			s, bits = mixed([]string{"a", "b", "c", "ab", ":", " ", "\n"}, 20, bits)
			checkOther(t, text, s)
		}
	}
}
