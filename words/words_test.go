package words

import (
	"math"
	"strings"
	"testing"

	"tedder/ere"
	"tedder/match"
	"tedder/sample"
)

var inf, nan = math.Inf(1), math.NaN()

// machine gives the machine of a right expression.
func machine(t *testing.T, text string) *match.Machine {
	t.Helper()
	tree, fault := ere.Parse(text)
	m := match.New(tree)
	if fault != 0 || m == nil {
		t.Fatalf("no machine of %.60q", text)
	}
	return m
}

// P11.1: Substr gives the bytes from a place on, all or so many, also where places and counts are none of the text's.
func TestSubstr(t *testing.T) {
	for _, c := range []struct {
		s    string
		m, n float64
		has  bool
		want string
	}{
		{"hello", 2, 3, true, "ell"},
		{"hello", 1, 5, true, "hello"},
		{"hello", 5, 1, true, "o"},
		{"hello", 5, 2, true, "o"},
		{"hello", 6, 1, true, ""},
		{"hello", 4, 99, true, "lo"},
		{"hello", 0, 3, true, "he"},
		{"hello", -1, 3, true, "h"},
		{"hello", -2, 3, true, ""},
		{"hello", -9, 99, true, "hello"},
		{"hello", 3, 0, true, ""},
		{"hello", 3, -1, true, ""},
		{"hello", -3, -1, true, ""},
		{"hello", 2, 0, false, "ello"},
		{"hello", 2, -7, false, "ello"},
		{"hello", 0, 0, false, "hello"},
		{"hello", -5, 0, false, "hello"},
		{"hello", 5, 0, false, "o"},
		{"hello", 6, 0, false, ""},
		{"hello", 99, 0, false, ""},
		{"", 1, 1, true, ""},
		{"", 0, 5, true, ""},
		{"", 1, 0, false, ""},
		{"h\u00e9llo", 2, 1, true, "\xc3"},
		{"\xff\x00\xfe\n", 2, 2, true, "\x00\xfe"},
	} {
		if got := Substr(c.s, c.m, c.n, c.has); got != c.want {
			t.Errorf("%q, %v, %v, %v: %q, not %q", c.s, c.m, c.n, c.has, got, c.want)
		}
	}
}

// P11.1: each number is rounded by itself, to the nearest integer, of two to the even one.
func TestSubstrRounds(t *testing.T) {
	for _, c := range []struct {
		m, n float64
		has  bool
		want string
	}{
		{1.5, 1, true, "e"},
		{2.5, 1, true, "e"},
		{2.4999, 1, true, "e"},
		{2.5001, 1, true, "l"},
		{3.5, 1, true, "p"},
		{0.5, 2, true, "h"},
		{-0.5, 2, true, "h"},
		{-1.5, 4, true, "h"},
		{-2.5, 4, true, "h"},
		{0.5000001, 2, true, "he"},
		{1, 0.5, true, ""},
		{1, 0.6, true, "h"},
		{1, 1.5, true, "he"},
		{1, 2.5, true, "he"},
		{1, 3.5, true, "help"},
		{1, -0.5, true, ""},
		{1.4, 1.4, true, "h"},
		{1.5, 1.5, true, "el"},
		{4.5, 0, false, "p"},
		{3.5, 0, false, "p"},
		{0.49999999999999994, 1, true, ""},
		{5e-324, 2, true, "h"},
	} {
		if got := Substr("help", c.m, c.n, c.has); got != c.want {
			t.Errorf("%v, %v, %v: %q, not %q", c.m, c.n, c.has, got, c.want)
		}
	}
}

// P11.1: Substr reckons with infinities, and answers nothing where there is no number; what isn't asked for counts for nothing.
func TestSubstrOfEdges(t *testing.T) {
	const huge = math.MaxFloat64
	for _, c := range []struct {
		m, n float64
		has  bool
		want string
	}{
		{1, inf, true, "hello"},
		{3, inf, true, "llo"},
		{0, inf, true, "hello"},
		{-huge, inf, true, "hello"},
		{6, inf, true, ""},
		{inf, 1, true, ""},
		{inf, inf, true, ""},
		{inf, -inf, true, ""},
		{-inf, inf, true, ""},
		{-inf, 5, true, ""},
		{-inf, -inf, true, ""},
		{1, -inf, true, ""},
		{-inf, 0, false, "hello"},
		{inf, 0, false, ""},
		{nan, 1, true, ""},
		{1, nan, true, ""},
		{nan, nan, true, ""},
		{nan, inf, true, ""},
		{-inf, nan, true, ""},
		{nan, 0, false, ""},
		{nan, nan, false, ""},
		{2, nan, false, "ello"},
		{2, -inf, false, "ello"},
		{-inf, inf, false, "hello"},
		{-huge, huge, true, ""},
		{huge, huge, true, ""},
		{-huge, -huge, true, ""},
		{huge, -huge, true, ""},
		{2, huge, true, "ello"},
		{-huge, 0, false, "hello"},
		{huge, 0, false, ""},
		{1 << 63, 1, true, ""},
		{1<<32 + 1, 1, true, ""},
		{1, 1 << 63, true, "hello"},
		{1, 1 << 32, true, "hello"},
		{-1 << 63, 1 << 63, true, ""},
		{-1 << 53, 1<<53 + 4, true, "hel"},
	} {
		if got := Substr("hello", c.m, c.n, c.has); got != c.want {
			t.Errorf("%v, %v, %v: %q, not %q", c.m, c.n, c.has, got, c.want)
		}
	}
}

// checkSub asks what m, the machine of what is named, makes of s, with as much room as that needs, and that there is no answer with less.
func checkSub(t *testing.T, name string, m *match.Machine, repl, s string, all bool, want string, count int) {
	t.Helper()
	for _, most := range []int{len(want), len(want) + 1, math.MaxInt} {
		if got, n, ok := Sub(m, repl, s, all, most); got != want || n != count || !ok {
			t.Errorf("%.60q by %.60q in %.60q, %v, %d: %.60q, %d, %v, not %.60q, %d", name, repl, s, all, most, got, n, ok, want, count)
		}
	}
	for _, most := range []int{len(want) - 1, len(want) / 2, 0, -1, math.MinInt} {
		if most >= len(want) {
			continue
		}
		if got, n, ok := Sub(m, repl, s, all, most); got != "" || n != 0 || ok {
			t.Errorf("%.60q by %.60q in %.60q, %v, %d: %.60q, %d, %v", name, repl, s, all, most, got, n, ok)
		}
	}
}

// P11.1: the first match is replaced, or each one.
func TestSub(t *testing.T) {
	for _, c := range []struct {
		text, s string
		first   string
		all     string
		count   int
	}{
		{"a", "banana", "b-nana", "b-n-n-", 3},
		{"an", "banana", "b-ana", "b--a", 2},
		{"ana", "banana", "b-na", "b-na", 1},
		{"a|an", "banana", "b-ana", "b---", 3},
		{"a+", "aabaac", "-baac", "-b-c", 2},
		{"aa", "aaaaa", "-aaa", "--a", 2},
		{".", "a\n\xff", "-\n\xff", "---", 3},
		{"x", "banana", "banana", "banana", 0},
		{"x", "", "", "", 0},
		{"^a", "aaa", "-aa", "-aa", 1},
		{"^a", "baa", "baa", "baa", 0},
		{"^(a|b)", "aba", "-ba", "-ba", 1},
		{"a$", "aaa", "aa-", "aa-", 1},
		{"^", "ab", "-ab", "-ab", 1},
		{"$", "ab", "ab-", "ab-", 1},
		{"$", "a\n", "a\n-", "a\n-", 1},
		{"^$", "", "-", "-", 1},
		{"^$", "a", "a", "a", 0},
		{"^|$", "ab", "-ab", "-ab-", 2},
		{"^|b", "bb", "-b", "--", 2},
		{"a|$", "ba", "b-", "b-", 1},
		{"a|$", "bab", "b-b", "b-b-", 2},
		{"b*", "abc", "-abc", "-a-c-", 3},
		{"b*", "", "-", "-", 1},
		{"b*", "b", "-", "-", 1},
		{"b*", "bb", "-", "-", 1},
		{"b*", "ab", "-ab", "-a-", 2},
		{"b*", "ba", "-a", "-a-", 2},
		{"b*", "baab", "-aab", "-a-a-", 3},
		{"b*", "abbbabb", "-abbbabb", "-a-a-", 3},
		{"b*|c", "bcb", "-cb", "---", 3},
		{"b?", "bbab", "-bab", "--a-", 3},
		{"", "ab", "-ab", "-a-b-", 3},
		{"", "", "-", "-", 1},
		{"()", "a\n", "-a\n", "-a-\n-", 3},
		{"x*$", "ax", "a-", "a-", 1},
		{"x*$", "axa", "axa-", "axa-", 1},
		{"(ab)*", "abaab", "-aab", "-a-", 2},
		{"a?b?", "abcba", "-cba", "-c--", 3},
		{".*", "ab", "-", "-", 1},
		{"\xc3", "\u00e9\u00e9", "-\xa9\u00e9", "-\xa9-\xa9", 2},
	} {
		m := machine(t, c.text)
		checkSub(t, c.text, m, "-", c.s, true, c.all, c.count)
		checkSub(t, c.text, m, "-", c.s, false, c.first, min(c.count, 1))
	}
}

// P11.1: what & and \ are in what a match is replaced by.
func TestReplacement(t *testing.T) {
	for _, c := range []struct{ repl, want string }{
		{"", ""},
		{"x", "x"},
		{"&", "ab"},
		{"&&", "abab"},
		{"<&>", "<ab>"},
		{"&-&", "ab-ab"},
		{"-&-", "-ab-"},
		{`\&`, "&"},
		{`\&&`, "&ab"},
		{`&\&`, "ab&"},
		{`\&\&`, "&&"},
		{`\\`, `\`},
		{`\\&`, `\ab`},
		{`\\\&`, `\&`},
		{`\\\\&`, `\\ab`},
		{`\\\\\&`, `\\&`},
		{`\\\\`, `\\`},
		{`\\\`, `\\`},
		{`\`, `\`},
		{`x\`, `x\`},
		{`&\`, `ab\`},
		{`\x`, `\x`},
		{`\x&`, `\xab`},
		{`\n\0\1`, `\n\0\1`},
		{"\\\n", "\\\n"},
		{"\\\xff", "\\\xff"},
		{"$0 $1 ${1} %s", "$0 $1 ${1} %s"},
		{"\x00\xff\n", "\x00\xff\n"},
		{"a*", "a*"},
	} {
		m := machine(t, "ab")
		checkSub(t, "ab", m, c.repl, "ab", false, c.want, 1)
		checkSub(t, "ab", m, c.repl, "xabab\\", false, "x"+c.want+"ab\\", 1)
		checkSub(t, "ab", m, c.repl, "xabab&", true, "x"+c.want+c.want+"&", 2)
		checkSub(t, "x", machine(t, "x"), c.repl, "ab", true, "ab", 0)
	}
}

// P11.1: & is what its own match has, which may be nothing, and is read no further.
func TestWhatMatched(t *testing.T) {
	for _, c := range []struct {
		text, repl, s, want string
		count               int
	}{
		{"a+|b", "<&>", "aabxa", "<aa><b>x<a>", 3},
		{"b*", "<&>", "abc", "<>a<b>c<>", 3},
		{"b*", "[&&]", "bba", "[bbbb]a[]", 2},
		{".", "&&", "ab", "aabb", 2},
		{".", "(&)", `&\`, `(&)(\)`, 2},
		{`\\&`, "&&", `\&`, `\&\&`, 1},
		{"a", "aa", "aa", "aaaa", 2},
		{"$", "&x", "a", "ax", 1},
	} {
		checkSub(t, c.text, machine(t, c.text), c.repl, c.s, true, c.want, c.count)
	}
}

// P11.1: a text that is too long is none, where nothing is replaced, too; a shorter answer than the text is measured alone.
func TestMost(t *testing.T) {
	m := machine(t, "a")
	for _, c := range []struct {
		repl, s string
		all     bool
		most    int
		want    string
		count   int
		ok      bool
	}{
		{"xxxx", "aaa", true, 12, "xxxxxxxxxxxx", 3, true},
		{"xxxx", "aaa", true, 11, "", 0, false},
		{"xxxx", "aaa", false, 6, "xxxxaa", 1, true},
		{"xxxx", "aaa", false, 5, "", 0, false},
		{"&&", "ba", true, 3, "baa", 1, true},
		{"&&", "ba", true, 2, "", 0, false},
		{"", "aaa", true, 0, "", 3, true},
		{"", "aaa", true, -1, "", 0, false},
		{"", "aaa", false, 2, "aa", 1, true},
		{"", "aaa", false, 1, "", 0, false},
		{"", "aaab", true, 1, "b", 3, true},
		{"", "aaab", true, 0, "", 0, false},
		{"x", "bbb", true, 3, "bbb", 0, true},
		{"x", "bbb", true, 2, "", 0, false},
		{"x", "", true, 0, "", 0, true},
		{"x", "", true, -1, "", 0, false},
		{"x", "", true, math.MinInt, "", 0, false},
		{"x", "a", true, math.MinInt, "", 0, false},
		{"x", "a", true, math.MaxInt, "x", 1, true},
		{"x", "a", true, 1 << 32, "x", 1, true},
	} {
		if got, n, ok := Sub(m, c.repl, c.s, c.all, c.most); got != c.want || n != c.count || ok != c.ok {
			t.Errorf("%q in %q, %v, at most %d: %q, %d, %v", c.repl, c.s, c.all, c.most, got, n, ok)
		}
	}
}

// checkMatch asks where m, the machine of what is named, matches in s.
func checkMatch(t *testing.T, name string, m *match.Machine, s string, place, size int) {
	t.Helper()
	if i, n := Match(m, s); i != place || n != size {
		t.Errorf("%.60q in %.60q: %d, %d, not %d, %d", name, s, i, n, place, size)
	}
}

// P11.1: Match tells the leftmost, longest match, counted in bytes from 1 on.
func TestMatch(t *testing.T) {
	for _, c := range []struct {
		text, s     string
		place, size int
	}{
		{"n+", "banana", 3, 1},
		{"a|an|ana", "banana", 2, 3},
		{"banana", "banana", 1, 6},
		{"a$", "banana", 6, 1},
		{"^b", "banana", 1, 1},
		{"^a", "banana", 0, -1},
		{"x", "banana", 0, -1},
		{"x", "", 0, -1},
		{"", "banana", 1, 0},
		{"", "", 1, 0},
		{"x*", "banana", 1, 0},
		{"b*", "abc", 1, 0},
		{"$", "banana", 7, 0},
		{"^$", "", 1, 0},
		{"^$", "a", 0, -1},
		{".*", "banana", 1, 6},
		{"a", "\u00e9a", 3, 1},
		{".", "\xff", 1, 1},
		{"\n", "a\n", 2, 1},
	} {
		checkMatch(t, c.text, machine(t, c.text), c.s, c.place, c.size)
	}
}

// P11.1, R2: of no machine nothing matches.
func TestNoMachine(t *testing.T) {
	for _, m := range []*match.Machine{nil, {}} {
		for _, s := range []string{"", "a", "abc\n"} {
			checkMatch(t, "no machine", m, s, 0, -1)
			for _, all := range []bool{false, true} {
				checkSub(t, "no machine", m, "x&", s, all, s, 0)
			}
		}
	}
}

// P11.2: what is replaced by & alone stays as it was.
func TestSameText(t *testing.T) {
	texts := append(sample.Texts("ab\\&", 4), sample.AllBytes(), strings.Repeat("ab\n", 100))
	for _, text := range []string{"", "a", "b*", "a|ab", "^", "$", ".", ".*", "[^a]+", `\\`, "&", `[\\&]*`, "x", "a?b?", "^a|b$"} {
		m := machine(t, text)
		for _, s := range texts {
			all, count, ok := Sub(m, "&", s, true, len(s))
			first, one, right := Sub(m, "&", s, false, len(s))
			if all != s || first != s || !ok || !right || one != min(count, 1) {
				t.Errorf("%q in %.60q: %.60q, %d, %v, %.60q, %d, %v", text, s, all, count, ok, first, one, right)
			}
		}
	}
}
