package match

import (
	"reflect"
	"strings"
	"sync"
	"testing"

	"tedder/api"
	"tedder/ere"
)

// P0: Find and Whole end soon in long texts, whatever an expression might try in them.
func TestLongTexts(t *testing.T) {
	const long = 1 << 19
	as := strings.Repeat("a", long)
	for _, c := range []found{
		{"a", as, 0, 0, 1},
		{"a*", as, 0, 0, long},
		{"a+$", as, 5, 5, long - 5},
		{"b", as, 0, 0, none},
		{"ba", as, 0, 0, none},
		{"a*b", as, 0, 0, none},
		{"(a*)*b", as, 0, 0, none},
		{"(a|a)*b", as, 0, 0, none},
		{"(a+)+b", as, 0, 0, none},
		{"(a|aa)+$", as + "b", 0, 0, none},
		{"(.*)(.*)(.*)b", as, 0, 0, none},
		{".*.*=.*", as, 0, 0, none},
		{"^a*b", as, 0, 0, none},
		{"a$", as, 0, long - 1, 1},
		{"a*b|a", as, 0, 0, 1},
		{"a*b|$", as, 0, long, 0},
		{"(a*)*(a*)*(a?){30}", as, 0, 0, long},
		{"a{100}", as, long - 100, long - 100, 100},
		{"a{100}", as, long - 99, 0, none},
	} {
		checkAll(t, []found{c})
	}
	if !parsed(t, "(a*)*(a*)*(a?){30}").Whole(as) || parsed(t, "(a*)*(a*)*(a?){30}").Whole(as+"b") || parsed(t, "(a|b)*b").Whole(as) {
		t.Error("the whole of a long text")
	}
}

// P0: machines of big expressions end, too.
func TestBigExpressions(t *testing.T) {
	const long = 1 << 13
	as := strings.Repeat("a", long)
	checkAll(t, []found{
		{"a" + strings.Repeat("*", 1999), as, 0, 0, long},
		{"a" + strings.Repeat("?", 1999), as, 0, 0, 1},
		{"(a?){250}a{255}a{255}b", as, 0, 0, none},
		{"(a?){255}a{255}", as, 0, 0, 510},
		{"((a{0,40}){0,40})b", as, 0, 0, none},
		{"((a{0,40}){0,40})", as, 0, 0, 1600},
		{"(a|b)*a(a|b){255}(a|b){255}c", as, 0, 0, none},
		{strings.Repeat("a", 2000), as, 0, 0, 2000},
		{strings.Repeat("a*", 1000), as, 0, 0, long},
		{strings.Repeat("a?", 1000), as, 0, 0, 1000},
		{strings.Repeat("b|", 999) + "c", as, 0, 0, none},
		{strings.Repeat("(", 100) + "a" + strings.Repeat(")*", 100), as, 0, 0, long},
	})
}

// P0: parts without a size stand in trees in any number, and how often they are repeated counts for nothing.
func TestManyEmptyParts(t *testing.T) {
	empty := []api.Ere{cat(many(300000, cat())...), cat(many(300000, cat(cat()))...)}
	for _, e := range append(empty, alt(many(300000, cat())...)) {
		for _, e := range []api.Ere{e, cat(e, e), alt(e, cat(), e), rep(255, 255, e), rep(255, -1, e), rep(3, 3, rep(255, 255, rep(0, 0, e)))} {
			checkFind(t, "nothing", made(t, e), "ab", 1, 1, 0)
		}
		checkFind(t, "a among nothing", made(t, rep(200, 200, cat(e, set("a"), e))), strings.Repeat("a", 300), 0, 0, 200)
		checkFind(t, "a beside nothing", made(t, rep(200, 200, alt(e, set("a"), e))), strings.Repeat("a", 300), 0, 0, 200)
	}
}

// P0: matches that stand one behind the other are found without going to the text's end for each.
func TestManyFinds(t *testing.T) {
	s := strings.Repeat("ab", 1<<18)
	for text, size := range map[string]int{"a": 1, "ab": 2, "a|ab?": 2, "a.": 2, "a[^a]*": 2} {
		m := parsed(t, text)
		for at := 0; at < len(s); at += 2 {
			if i, n, ok := m.Find(s, at); !ok || i != at || n != size {
				t.Fatalf("%q from %d: %d, %d, %v", text, at, i, n, ok)
			}
		}
	}
}

// checkStates asks that the machine of e has no more than two states for each part that the size counts, and one.
func checkStates(t *testing.T, e api.Ere) {
	t.Helper()
	if m := made(t, e); len(m.states) > 2*plainSize(e)+1 {
		t.Errorf("%s: %d states, size %d", shown(e), len(m.states), plainSize(e))
	}
}

// P0: the size bounds how many states there are, so that none takes long or much memory.
func TestCountOfStates(t *testing.T) {
	for _, text := range []string{"(((a{0,6}){0,6}){0,6}){0,6}", "a{255,}(b?){255}", "(a|b|){255}", "(a*)" + strings.Repeat("?", 1990), "((a|)*|b+){100}"} {
		e, fault := ere.Parse(text)
		if fault != 0 {
			t.Fatalf("%.60q: %d", text, fault)
		}
		checkStates(t, e)
	}
	for _, e := range []api.Ere{cat(cat(), cat()), alt(cat(), cat(), cat()), alt(alt(cat())), rep(0, 0, set("a"))} {
		for range 3 {
			for _, b := range [][2]int{{255, 255}, {0, 255}, {255, -1}, {0, -1}} {
				l := many(api.MaxEre, rep(b[0], b[1], e))
				checkStates(t, cat(l[:api.MaxEre/plainSize(l[0])]...))
			}
			e = rep(0, 2, e)
		}
	}
}

// P0: there is no machine of lists that have themselves in them.
func TestEndlessTrees(t *testing.T) {
	for _, op := range []string{"cat", "alt", "rep", "set", "x"} {
		kids := []api.Ere{{}}
		kids[0] = api.Ere{Op: op, Kids: kids, Lo: 1, Hi: 1}
		two := []api.Ere{{}, {}}
		two[0], two[1] = api.Ere{Op: op, Kids: two}, api.Ere{Op: "cat", Kids: two}
		behind := []api.Ere{set("a"), {}}
		behind[1] = api.Ere{Op: op, Kids: behind}
		if New(kids[0]) != nil || New(two[0]) != nil || New(two[1]) != nil || New(behind[1]) != nil {
			t.Errorf("a machine of a tree without an end, of %s", op)
		}
	}
}

// P0: Find and Whole answer something at whatever bytes.
func TestAnyBytes(t *testing.T) {
	for _, text := range []string{"", "a*", "[^a]", "^.$", ".*\x80", `\377+`, "(\n|$)"} {
		m := parsed(t, text)
		for c := range 256 {
			s := strings.Repeat(string([]byte{byte(c), 0, 255}), 5)
			for from := -2; from < 20; from++ {
				if i, n, ok := m.Find(s, from); ok && (i < from || n < 0 || i+n > len(s)) {
					t.Errorf("%q in %q from %d: %d, %d", text, s, from, i, n)
				}
			}
			m.Whole(s)
		}
	}
}

// R4: the tree that is handed in isn't changed, and isn't kept.
func TestOwnTree(t *testing.T) {
	for _, text := range []string{"(a|b*)c{2,3}|^$", "a(b|c(d|e)*)+", "(ab){2}"} {
		e, _ := ere.Parse(text)
		same, _ := ere.Parse(text)
		m := made(t, e)
		checkPlain(t, same, m, "acdbcceab")
		if !reflect.DeepEqual(e, same) {
			t.Errorf("the tree of %q was changed", text)
		}
		spoil(e.Kids)
		for _, s := range []string{"", "abab", "acdeb", "ccc", "aacccb"} {
			checkPlain(t, same, m, s)
		}
	}
}

// spoil changes all trees of a list.
func spoil(kids []api.Ere) {
	for i := range kids {
		spoil(kids[i].Kids)
		kids[i] = set("\x00")
	}
}

// R7: what a machine is asked changes no later answer of it, and it may be asked by several at once.
func TestSharedMachine(t *testing.T) {
	e, _ := ere.Parse("(a|ab)(c|bcd)*$|b+")
	m := made(t, e)
	texts := []string{"abcd", "abcdbbb", "xxbb", "", "acccc", "aaaaaaaaab", "ccccccc", "abcbcd"}
	var all sync.WaitGroup
	for worker := range 8 {
		all.Go(func() {
			for i := range 400 {
				s := texts[(worker*3+i)%len(texts)]
				place, size := plainFind(e, s, 0)
				checkFind(t, "a shared machine", m, s, 0, place, size)
				if m.Whole(s) != (place == 0 && size == len(s)) {
					t.Errorf("the whole of %q", s)
				}
			}
		})
	}
	all.Wait()
}
