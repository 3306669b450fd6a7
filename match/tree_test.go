package match

import (
	"strings"
	"testing"

	"tedder/api"
	"tedder/ere"
	"tedder/sample"
)

// checkRefused asks that there is no machine of the trees, wherever they stand in another.
func checkRefused(t *testing.T, trees ...api.Ere) {
	t.Helper()
	for i, e := range trees {
		for j, around := range []api.Ere{e, cat(e), cat(set("a"), e), cat(e, set("a")), alt(e), alt(e, e), alt(cat(), e), alt(e, set("a")), rep(0, 0, e), rep(0, -1, e), rep(1, 1, cat(bol(), alt(e)))} {
			if m := New(around); m != nil {
				t.Errorf("a machine of wrong tree %d in %d: %s", i, j, shown(around))
			}
		}
	}
}

// P4.1: there is no machine of trees with another Op.
func TestWrongOps(t *testing.T) {
	checkRefused(t, api.Ere{})
	for _, op := range []string{"x", "SET", "Set", "set ", " set", "sets", "se", "bo", "eo", "begin", "end", "empty", "any", "group", "rep2", "plus", "\x00", "set\x00"} {
		checkRefused(t, api.Ere{Op: op}, api.Ere{Op: op, Set: "a"}, api.Ere{Op: op, Kids: []api.Ere{set("a")}}, api.Ere{Op: op, Kids: []api.Ere{set("a")}, Lo: 1, Hi: 1})
	}
}

// P4.1: there is no machine of trees with too few Kids, or too many.
func TestWrongKids(t *testing.T) {
	one, two := []api.Ere{bol()}, []api.Ere{set("a"), set("b")}
	checkRefused(t,
		api.Ere{Op: "alt"}, api.Ere{Op: "alt", Kids: []api.Ere{}}, api.Ere{Op: "alt", Set: "a"},
		api.Ere{Op: "set", Kids: one}, api.Ere{Op: "set", Set: "a", Kids: one}, api.Ere{Op: "set", Set: "a", Kids: two}, api.Ere{Op: "set", Kids: []api.Ere{cat()}},
		api.Ere{Op: "bol", Kids: one}, api.Ere{Op: "bol", Kids: two}, api.Ere{Op: "bol", Kids: []api.Ere{cat()}},
		api.Ere{Op: "eol", Kids: one}, api.Ere{Op: "eol", Kids: two}, api.Ere{Op: "eol", Kids: []api.Ere{{}}},
		api.Ere{Op: "rep"}, api.Ere{Op: "rep", Kids: []api.Ere{}, Hi: -1}, api.Ere{Op: "rep", Kids: two}, api.Ere{Op: "rep", Kids: two, Lo: 1, Hi: 1}, api.Ere{Op: "rep", Kids: []api.Ere{cat(), cat()}, Hi: 1})
}

// P4.1: there is no machine of a rep with wrong bounds.
func TestWrongBounds(t *testing.T) {
	const least, most = -1 << 63, 1<<63 - 1
	for _, b := range [][2]int{{2, 1}, {1, 0}, {255, 254}, {255, 0}, {-1, -1}, {-1, 0}, {-1, 1}, {-2, -2}, {-2, -1}, {0, -2}, {1, -2}, {255, -255}, {256, 256}, {256, -1}, {256, 300}, {256, 0}, {0, 256}, {1, 256}, {255, 256}, {300, 200}, {0, 65536}, {0, 1 << 32}, {1 << 32, 1 << 32}, {1 << 32, -1}, {-1 << 32, 0}, {0, -1 << 32}, {least, -1}, {least, least}, {most, most}, {most, -1}, {0, most}, {0, least}, {most, least}} {
		for _, kid := range []api.Ere{set("a"), cat(), bol(), rep(0, 1, set("a"))} {
			checkRefused(t, rep(b[0], b[1], kid))
		}
	}
	for lo := range 256 {
		for _, hi := range []int{-1, lo, min(lo+1, 255), 255} {
			made(t, rep(lo, hi, set("a")))
		}
	}
}

// P4.1: any Set will do, any count of Kids of cat and alt, and Lo and Hi of other nodes are ignored.
func TestOddTrees(t *testing.T) {
	never := api.Ere{Op: "set"}
	checkFind(t, "no byte", made(t, never), sample.AllBytes(), 0, 0, none)
	checkFind(t, "no byte", made(t, never), "", 0, 0, none)
	checkFind(t, "a or no byte", made(t, alt(never, set("a"))), "ba", 0, 1, 1)
	checkFind(t, "a and no byte", made(t, cat(set("a"), never)), "aa", 0, 0, none)
	checkFind(t, "no byte, any times", made(t, rep(0, -1, never)), "a", 0, 0, 0)
	checkFind(t, "no byte, once", made(t, rep(1, 1, never)), "a", 0, 0, none)
	checkFind(t, "no byte, never", made(t, rep(0, 0, never)), "a", 0, 0, 0)
	for _, bytes := range []string{"cab", "aabbcc", "abcabc", "cba", strings.Repeat("cba", 10000)} {
		checkFind(t, "a, b or c", made(t, set(bytes)), "xxb", 0, 2, 1)
		checkFind(t, "a, b or c", made(t, rep(0, -1, set(bytes))), "abcd", 0, 0, 3)
	}
	checkFind(t, "a byte with bounds", made(t, api.Ere{Op: "set", Set: "a", Lo: 9, Hi: 3}), "aa", 0, 0, 1)
	checkFind(t, "bol with all", made(t, api.Ere{Op: "bol", Set: "a", Lo: -9, Hi: 300}), "ab", 0, 0, 0)
	checkFind(t, "eol with all", made(t, api.Ere{Op: "eol", Set: "a", Lo: -9, Hi: 300}), "ab", 0, 2, 0)
	checkFind(t, "cat with all", made(t, api.Ere{Op: "cat", Set: "x", Lo: 7, Hi: -7, Kids: []api.Ere{set("a")}}), "ba", 0, 1, 1)
	checkFind(t, "alt with all", made(t, api.Ere{Op: "alt", Set: "x", Lo: 7, Hi: -7, Kids: []api.Ere{set("a")}}), "ba", 0, 1, 1)
	checkFind(t, "rep with a set", made(t, api.Ere{Op: "rep", Set: "x", Lo: 2, Hi: 2, Kids: []api.Ere{set("a")}}), "aaa", 0, 0, 2)
	checkFind(t, "leaf with an empty list", made(t, api.Ere{Op: "set", Set: "a", Kids: []api.Ere{}}), "a", 0, 0, 1)
	checkFind(t, "nil list", made(t, api.Ere{Op: "cat"}), "a", 0, 0, 0)
	checkFind(t, "cats", made(t, cat(cat(cat()), cat(cat(set("a"))), cat())), "ba", 0, 1, 1)
	checkFind(t, "alts", made(t, alt(alt(alt(set("b"))), alt(cat()))), "ab", 1, 1, 1)
	checkFind(t, "alts of nothing", made(t, cat(set("a"), alt(cat(), cat(cat()), rep(3, 3, cat())), set("b"))), "ab", 0, 0, 2)
}

// checkSize asks that e has that size: bytes behind it up to MaxEre in all are right, one more is not.
func checkSize(t *testing.T, e api.Ere, size int) {
	t.Helper()
	if m := New(cat(e, cat(many(api.MaxEre-size, set("b"))...))); m == nil {
		t.Errorf("%s is more than %d", shown(e), size)
	}
	checkRefused(t, cat(e, cat(many(api.MaxEre-size+1, set("b"))...)))
}

// P4.1: there is no machine of what is above MaxEre in size.
func TestSizes(t *testing.T) {
	a := set("a")
	checkSize(t, cat(), 0)
	checkSize(t, a, 1)
	checkSize(t, set(""), 1)
	checkSize(t, bol(), 1)
	checkSize(t, eol(), 1)
	checkSize(t, cat(a), 1)
	checkSize(t, cat(a, a, bol()), 3)
	checkSize(t, cat(many(api.MaxEre, a)...), api.MaxEre)
	checkSize(t, alt(cat()), 1)
	checkSize(t, alt(a), 2)
	checkSize(t, alt(a, cat(), a), 3)
	checkSize(t, alt(many(api.MaxEre-1, a)...), api.MaxEre)
	checkSize(t, alt(alt(alt(cat()))), 3)
	checkSize(t, rep(0, 0, cat()), 1)
	checkSize(t, rep(255, 255, cat()), 1)
	checkSize(t, rep(255, 255, rep(255, 255, cat())), 256)
	checkSize(t, rep(0, 0, a), 2)
	checkSize(t, rep(0, 1, a), 2)
	checkSize(t, rep(0, -1, a), 2)
	checkSize(t, rep(1, -1, a), 3)
	checkSize(t, rep(2, 5, a), 6)
	checkSize(t, rep(5, 5, a), 6)
	checkSize(t, rep(255, 255, a), 256)
	checkSize(t, rep(255, -1, a), 257)
	checkSize(t, rep(0, 255, cat(many(7, a)...)), 1786)
	checkSize(t, rep(3, -1, cat(a, alt(a, a))), 17)
	checkSize(t, rep(0, 0, cat(many(1999, a)...)), 2000)
	checkRefused(t, cat(many(2001, a)...), alt(many(2000, a)...), rep(0, 0, cat(many(2000, a)...)), rep(0, 255, rep(0, 255, a)), rep(255, -1, rep(255, -1, a)), rep(200, 200, cat(many(10, a)...)))
	e := set("a")
	for range 100 {
		e = rep(255, -1, e)
	}
	checkRefused(t, e)
}

// nested gives e within count nodes of one Kid.
func nested(count int, e api.Ere, around func(api.Ere) api.Ere) api.Ere {
	for range count {
		e = around(e)
	}
	return e
}

// P4.1: a tree of 2000 nodes around another is right, one of more isn't.
func TestDepths(t *testing.T) {
	const deepest = 2000
	inCat := func(e api.Ere) api.Ere { return cat(e) }
	inStar := func(e api.Ere) api.Ere { return rep(0, -1, e) }
	inAlt := func(e api.Ere) api.Ere { return alt(e) }
	checkFind(t, "a deep byte", made(t, nested(deepest, set("a"), inCat)), "ba", 0, 1, 1)
	checkFind(t, "a deep end", made(t, nested(deepest, eol(), inCat)), "ba", 0, 2, 0)
	checkFind(t, "a deep nothing", made(t, nested(deepest, cat(), inCat)), "ba", 0, 0, 0)
	checkFind(t, "a byte, repeated", made(t, nested(deepest-1, set("a"), inStar)), "aab", 0, 0, 2)
	checkFind(t, "nothing, repeated", made(t, nested(deepest, cat(), inStar)), "aab", 0, 0, 0)
	checkFind(t, "branches within branches", made(t, nested(deepest-1, set("a"), inAlt)), "ba", 0, 1, 1)
	for _, e := range []api.Ere{
		nested(deepest+1, set("a"), inCat), nested(deepest+1, cat(), inCat), nested(deepest+1, bol(), inCat), nested(deepest, cat(set("a")), inCat),
		nested(deepest+1, cat(), inStar), nested(deepest, cat(cat()), inStar), nested(deepest, alt(cat()), inAlt), nested(deepest, set("a"), inStar),
		cat(set("a"), nested(deepest, set("a"), inCat)), cat(nested(deepest, cat(), inCat), set("a")), nested(100000, cat(), inCat), nested(100000, set("a"), inStar),
	} {
		if New(e) != nil {
			t.Error("a machine of a tree that is too deep")
		}
	}
	e, fault := ere.Parse("()" + strings.Repeat("*", deepest))
	if fault != 0 || New(e) == nil {
		t.Errorf("no machine of an expression of many repeats (%d)", fault)
	}
}
