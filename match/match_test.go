package match

import (
	"fmt"
	"strings"
	"testing"

	"tedder/api"
	"tedder/ere"
	"tedder/sample"
)

func set(bytes string) api.Ere {
	return api.Ere{Op: "set", Set: bytes}
}

func cat(kids ...api.Ere) api.Ere {
	return api.Ere{Op: "cat", Kids: kids}
}

func alt(kids ...api.Ere) api.Ere {
	return api.Ere{Op: "alt", Kids: kids}
}

func rep(lo, hi int, kid api.Ere) api.Ere {
	return api.Ere{Op: "rep", Kids: []api.Ere{kid}, Lo: lo, Hi: hi}
}

func bol() api.Ere {
	return api.Ere{Op: "bol"}
}

func eol() api.Ere {
	return api.Ere{Op: "eol"}
}

// many gives a list of count trees e.
func many(count int, e api.Ere) []api.Ere {
	var l []api.Ere
	for range count {
		l = append(l, e)
	}
	return l
}

// shown gives the beginning of e for a reader.
func shown(e api.Ere) string {
	return fmt.Sprintf("%.300s", fmt.Sprint(e))
}

// made gives the machine of a right tree.
func made(t *testing.T, e api.Ere) *Machine {
	t.Helper()
	m := New(e)
	if m == nil {
		t.Fatalf("no machine of %s", shown(e))
	}
	return m
}

// parsed gives the machine of an expression.
func parsed(t *testing.T, text string) *Machine {
	t.Helper()
	e, fault := ere.Parse(text)
	if fault != 0 {
		t.Fatalf("%.60q has fault %d", text, fault)
	}
	return made(t, e)
}

// checkFind asks that m, the machine of what is named, finds in s from that place on what is given; none is a size below 0.
func checkFind(t *testing.T, name string, m *Machine, s string, from, place, size int) {
	t.Helper()
	ok := size >= 0
	if !ok {
		place, size = 0, 0
	}
	if i, n, found := m.Find(s, from); i != place || n != size || found != ok {
		t.Errorf("%.60s in %.60q from %d: %d, %d, %v, not %d, %d, %v", name, s, from, i, n, found, place, size, ok)
	}
}

// found is an expression, a text, and where it matches there from a place on: the place and the length, below 0 of none.
type found struct {
	text, s           string
	from, place, size int
}

func checkAll(t *testing.T, cases []found) {
	t.Helper()
	for _, c := range cases {
		checkFind(t, c.text, parsed(t, c.text), c.s, c.from, c.place, c.size)
	}
}

const none = -1

// P4.1: bytes and sets of them.
func TestSets(t *testing.T) {
	checkAll(t, []found{
		{"a", "a", 0, 0, 1},
		{"a", "ba", 0, 1, 1},
		{"a", "bab", 0, 1, 1},
		{"a", "baa", 0, 1, 1},
		{"a", "b", 0, 0, none},
		{"a", "A", 0, 0, none},
		{"a", "", 0, 0, none},
		{"ab", "aab", 0, 1, 2},
		{"ab", "aa", 0, 0, none},
		{"abc", "ababc", 0, 2, 3},
		{"aab", "aaab", 0, 1, 3},
		{".", "\n", 0, 0, 1},
		{".", "\x00", 0, 0, 1},
		{".", "\xff", 0, 0, 1},
		{".", "", 0, 0, none},
		{"..", "\u00e9", 0, 0, 2},
		{"[b-d]", "axc", 0, 2, 1},
		{"[^a]", "aab", 0, 2, 1},
		{"[^a]", "aa", 0, 0, none},
		{"[^a]", "a\n", 0, 1, 1},
		{"[^a]+", "aabca", 0, 2, 2},
		{"[[:digit:]]+", "ab123c45", 0, 2, 3},
		{`\377`, "\xfe\xff", 0, 1, 1},
		{`\0`, "a\x00", 0, 1, 1},
		{`[^\0-\377]`, sample.AllBytes(), 0, 0, none},
		{`\.`, "a.", 0, 1, 1},
	})
}

// P4.1: each byte is in no set but those that have it.
func TestEachByte(t *testing.T) {
	all := sample.AllBytes()
	for c := range 256 {
		one := all[c : c+1]
		m, not := made(t, set(one)), made(t, set(all[:c]+all[c+1:]))
		checkFind(t, one, m, all, 0, c, 1)
		for i := range 256 {
			if m.Whole(all[i:i+1]) != (i == c) || not.Whole(all[i:i+1]) != (i != c) {
				t.Errorf("byte %d and the set of %d", i, c)
			}
		}
	}
}

// P4.1: the beginning and the end of the text, and of nothing else.
func TestEdges(t *testing.T) {
	checkAll(t, []found{
		{"^", "", 0, 0, 0},
		{"^", "ab", 0, 0, 0},
		{"^", "ab", 1, 0, none},
		{"^", "a\nb", 2, 0, none},
		{"$", "", 0, 0, 0},
		{"$", "ab", 0, 2, 0},
		{"$", "ab", 2, 2, 0},
		{"$", "a\nb\n", 0, 4, 0},
		{"^a", "aa", 0, 0, 1},
		{"^a", "aa", 1, 0, none},
		{"^a", "ba", 0, 0, none},
		{"^a", "b\na", 0, 0, none},
		{"a$", "aba", 0, 2, 1},
		{"a$", "a\n", 0, 0, none},
		{"a$", "ab", 0, 0, none},
		{"^$", "", 0, 0, 0},
		{"^$", "a", 0, 0, none},
		{"^$", "\n", 0, 0, none},
		{"$^", "", 0, 0, 0},
		{"$^", "a", 0, 0, none},
		{"^^a$$", "a", 0, 0, 1},
		{"^a$", "a", 0, 0, 1},
		{"a^b", "ab", 0, 0, none},
		{"a$b", "ab", 0, 0, none},
		{"a^*b", "ab", 0, 0, 2},
		{"a$*b", "ab", 0, 0, 2},
		{"a$+b", "ab", 0, 0, none},
		{"^*a", "ba", 0, 1, 1},
		{"(^|b)a", "aba", 0, 0, 1},
		{"(^|b)a", "aba", 1, 1, 2},
		{"(^|b)a", "caba", 0, 2, 2},
		{"a($|b)", "aab", 0, 1, 2},
		{"a($|b)", "aaa", 0, 2, 1},
		{"(^a|b)+", "abab", 0, 0, 2},
		{"(^a|b)+", "abab", 1, 1, 1},
		{"(^a)*", "aa", 0, 0, 1},
		{"(^a){2}", "aa", 0, 0, none},
		{"(^|a)+b", "aab", 0, 0, 3},
		{"(a|$)+", "aab", 0, 0, 2},
		{"b(a|$)+", "aaba", 0, 2, 2},
		{"(^){3}a", "a", 0, 0, 1},
		{"(a$){2}", "aa", 0, 0, none},
		{"()^a", "a", 0, 0, 1},
		{"b*^a", "ba", 0, 0, none},
		{"x*", "", 0, 0, 0},
		{"x|$", "ab", 0, 2, 0},
		{"x|$", "ab", 1, 2, 0},
	})
}

// P4.1: of all matches the leftmost one, and of these the longest.
func TestLeftmostLongest(t *testing.T) {
	checkAll(t, []found{
		{"a|ab", "xab", 0, 1, 2},
		{"ab|a", "xab", 0, 1, 2},
		{"a|ab|abc", "abd", 0, 0, 2},
		{"(a|ab)(c|bcd)", "abcd", 0, 0, 4},
		{"(a|ab)(bcd|c)", "abcd", 0, 0, 4},
		{"a|bcd", "bcda", 0, 0, 3},
		{"b|abcd", "abcd", 0, 0, 4},
		{"b|abcx", "abcd", 0, 1, 1},
		{"bc|abcx|c", "abcd", 0, 1, 2},
		{"c|bcdx|abcdx", "abcd", 0, 2, 1},
		{"b|bcde|abcdef", "abcdeg", 0, 1, 4},
		{"b|bcdx|abcdef", "abcdeg", 0, 1, 1},
		{"b*", "abb", 0, 0, 0},
		{"b*", "abb", 1, 1, 2},
		{"b*", "abb", 2, 2, 1},
		{"b*", "abb", 3, 3, 0},
		{"b+", "abbcbbb", 0, 1, 2},
		{"", "abc", 0, 0, 0},
		{"a*?", "aaa", 0, 0, 3},
		{"a?", "aaa", 0, 0, 1},
		{"(a|aa)+", "aaaaa", 0, 0, 5},
		{"(aa)*", "aaaaa", 0, 0, 4},
		{"(aa|aaa)*", "aaaaa", 0, 0, 5},
		{"(aaa|aaaaa)?", "aaaa", 0, 0, 3},
		{"a.*b|a", "axbxbx", 0, 0, 5},
		{".*", "a\nb", 0, 0, 3},
		{"x*|b", "ab", 0, 0, 0},
		{"x+|b", "abx", 0, 1, 1},
		{"|a", "a", 0, 0, 1},
		{"a|", "ba", 0, 0, 0},
		{"(a|)(b|)", "ab", 0, 0, 2},
		{"(foo|foobar)(bar)?baz", "foobarbarbaz", 0, 0, 12},
		{"a(b*|c)d", "acabbd", 0, 2, 4},
	})
}

// P4.1: repeats of each kind of bounds.
func TestRepeats(t *testing.T) {
	checkAll(t, []found{
		{"x{2,3}", "xxxxx", 0, 0, 3},
		{"x{2,3}", "xxxxx", 3, 3, 2},
		{"x{2,3}", "xxxxx", 4, 0, none},
		{"x{2}", "xyxxx", 0, 2, 2},
		{"x{2,}", "xyxxxx", 0, 2, 4},
		{"x{0,2}", "xxx", 0, 0, 2},
		{"x{0}", "xx", 0, 0, 0},
		{"x{0,0}y", "xy", 0, 1, 1},
		{"x{0,}y", "xxy", 0, 0, 3},
		{"x{1,}", "yxx", 0, 1, 2},
		{"(ab){2}", "abaabab", 0, 3, 4},
		{"(ab?){2,3}", "aabaab", 0, 0, 4},
		{"(a{2}){2}", "aaaaa", 0, 0, 4},
		{"(a{2,3}){2}", "aaaaaaa", 0, 0, 6},
		{"(a*)*b", "aaab", 0, 0, 4},
		{"(a*)+", "baa", 0, 0, 0},
		{"(a*){3}b", "aab", 0, 0, 3},
		{"(a|b){3}", "abba", 0, 0, 3},
		{"(a?){3}b", "aaaab", 0, 1, 4},
		{"(a*){0}b", "aab", 0, 2, 1},
		{"()*x", "x", 0, 0, 1},
		{"(()|a)+b", "aab", 0, 0, 3},
		{"(|){5}a", "ba", 0, 1, 1},
		{"x**", "xx", 0, 0, 2},
		{"x{2}{2}", "xxxxx", 0, 0, 4},
		{"x{2}*", "xxxxx", 0, 0, 4},
		{"x+?y", "xxy", 0, 0, 3},
	})
	for size := range 600 {
		xs := strings.Repeat("x", size)
		for text, want := range map[string]bool{"x{255}": size == 255, "x{255,}": size >= 255, "x{0,255}": size <= 255, "x{100,200}": 100 <= size && size <= 200, "(x{2}){200}": size == 400, "(x{1,2}){200}": 200 <= size && size <= 400} {
			if got := parsed(t, text).Whole(xs); got != want {
				t.Errorf("%d bytes x and %s: %v", size, text, got)
			}
		}
	}
}

// P4.1: the places from which a match is looked for.
func TestFrom(t *testing.T) {
	checkAll(t, []found{
		{"a", "aba", 0, 0, 1},
		{"a", "aba", 1, 2, 1},
		{"a", "aba", 2, 2, 1},
		{"a", "aba", 3, 0, none},
		{"a", "aba", 4, 0, none},
		{"a", "a", -1, 0, none},
		{"a", "a", -1 << 63, 0, none},
		{"a", "a", 1<<63 - 1, 0, none},
		{"", "", 0, 0, 0},
		{"", "", 1, 0, none},
		{"", "", -1, 0, none},
		{"", "x", 1, 1, 0},
		{"", "x", 2, 0, none},
		{"$", "x", 2, 0, none},
		{"^", "x", -1, 0, none},
		{"ab", "abab", 1, 2, 2},
		{"bab|b", "abab", 2, 3, 1},
	})
}

// P4.1: Whole asks for a match of all bytes.
func TestWhole(t *testing.T) {
	for _, c := range []struct {
		text, s string
		want    bool
	}{
		{"", "", true}, {"", "a", false},
		{"a", "a", true}, {"a", "", false}, {"a", "aa", false}, {"a", "ba", false}, {"a", "ab", false}, {"a", "b", false},
		{"a|ab", "ab", true}, {"ab|a", "a", true}, {"a|ab", "abb", false},
		{"a*", "", true}, {"a*", "aaa", true}, {"a*", "aab", false}, {"a*", "baa", false},
		{"^a$", "a", true}, {"^$", "", true}, {"^", "", true}, {"^", "a", false}, {"$", "", true}, {"$", "a", false},
		{"(a|ab)(c|bcd)", "abcd", true}, {"(a|ab)(c|bcd)", "abc", true}, {"(a|ab)(c|bcd)", "acd", false},
		{".*", "a\n\x00\xff", true}, {"[^\n]*", "a\nb", false},
		{"b|.a", "ba", true}, {"(aa|aaa)*", "a", false}, {"(aa|aaa)*", "aaaaaaa", true},
		{"x{2,3}", "x", false}, {"x{2,3}", "xx", true}, {"x{2,3}", "xxx", true}, {"x{2,3}", "xxxx", false},
	} {
		if got := parsed(t, c.text).Whole(c.s); got != c.want {
			t.Errorf("%q and the whole of %q: %v", c.text, c.s, got)
		}
	}
}

// P4.1, P0: of a nil machine, and of one that New didn't make, nothing matches.
func TestNoMachine(t *testing.T) {
	for _, m := range []*Machine{nil, {}, new(Machine)} {
		for _, s := range []string{"", "a", "abc"} {
			for from := -1; from <= len(s)+1; from++ {
				checkFind(t, "no machine", m, s, from, 0, none)
			}
			if m.Whole(s) {
				t.Errorf("no machine matches %q", s)
			}
		}
	}
}
