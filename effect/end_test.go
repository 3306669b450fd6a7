package effect

import (
	"reflect"
	"slices"
	"strconv"
	"strings"
	"sync"
	"testing"
	"unsafe"

	"tedder/api"
	"tedder/sample"
)

// P17.1: the greatest programs are answered, too, and soon: of about as many tokens as may be, and of names as long as may be.
func TestGreatest(t *testing.T) {
	var updates, asked, want []string
	for i := 1000; i < 4500; i++ {
		name := "v" + strconv.Itoa(i)
		updates, asked, want = append(updates, name+"++;"), append(asked, name+";"), append(want, name+":sum")
	}
	slices.Reverse(updates)
	checkAccepted(t, strings.Join(want, " "), "{"+strings.Join(updates, "")+"}", "{"+strings.Join(updates, "")+"} END {"+strings.Join(asked, "")+"}")
	checkRefused(t, "{"+strings.Join(updates, "")+"} { v3000 }", "{ v3000 } {"+strings.Join(updates, "")+"}", "{"+strings.Join(updates, "")+"} END { } { v3000 = 1 }")
	checkAccepted(t, "", strings.Repeat("{}", 10000), "{"+strings.Repeat("a;", 9990)+"}", "{"+strings.Repeat("for(;;);", 2850)+"}")
	checkAccepted(t, "m:max", "{"+strings.Repeat("if(1>m)m=1;", 1800)+"}")
	checkAccepted(t, "a:sums", "{"+strings.Repeat("a[a1]++;", 3300)+"}", "{ a["+strings.Repeat("1,", 9900)+"1]++ }", "{ a["+strings.Repeat("- ", 150)+"1]++ }")
	checkAccepted(t, "s:sum", strings.Repeat("{if(1)", 90)+"s++"+strings.Repeat("}", 90), strings.Repeat("{", 190)+"s++"+strings.Repeat("}", 190))
	checkRefused(t, "{"+strings.Repeat("a;", 9990)+"} { exit }", strings.Repeat("{if(1)", 90)+"exit"+strings.Repeat("}", 90), "{ a["+strings.Repeat("1,", 9900)+"a[1]]++ }")
	long := strings.Repeat("n", 30000)
	checkAccepted(t, long+":last", "{ "+long+" = 1 }")
	checkAccepted(t, long+":max", "{ if (1 > "+long+") "+long+" = 1 }")
	wide := "-(" + strings.Repeat(strings.Repeat("1 ", 60)+"+ (", 40) + "1" + strings.Repeat(")", 40) + " + 1)"
	checkAccepted(t, "m:max", "{ if ("+wide+" > m) m = "+wide+" }")
	checkRefused(t, "{ if ("+wide+" > m) m = "+strings.Replace(wide, "1", "2", 1)+" }", "{ if ("+wide+" + 1 > m) m = "+wide+" + 2 }")
}

// allOps gives the Op of every node that there is, and of one that there isn't.
func allOps() []string {
	return strings.Fields("BEGIN END func params rule range block expr print printf next break continue exit return delete do if while for forin none assign cond bin in unary pre post num str ere group field var elem call built other")
}

// checkEnds asks for an answer of whatever trees, and for nothing beside false.
func checkEnds(t *testing.T, l []api.Node) {
	t.Helper()
	if got := shown(Find(l)); strings.HasSuffix(got, "beside false") {
		t.Error(got)
	}
}

// inRules gives trees out of nodes as all that a rule may have them as.
func inRules(l ...api.Node) [][]api.Node {
	return [][]api.Node{
		l,
		{{Op: "rule", Kids: l}},
		{{Op: "rule", Kids: []api.Node{{Op: "none"}, {Op: "block", Kids: l}}}},
		{{Op: "rule", Kids: []api.Node{{Op: "expr", Kids: l}, {Op: "block", Kids: []api.Node{{Op: "expr", Kids: l}}}}}},
	}
}

// P0: Find ends and doesn't panic at trees that hold themselves, or share what is in them.
func TestRoundTrees(t *testing.T) {
	for _, op := range allOps() {
		for _, text := range []string{"=", "split", ">", ""} {
			for _, count := range []int{1, 2, 3, 50} {
				round := make([]api.Node, count)
				for i := range round {
					round[i] = api.Node{Op: op, Text: text, Kids: round}
				}
				var shared []api.Node
				for range 100 {
					next := make([]api.Node, count)
					for i := range next {
						next[i] = api.Node{Op: op, Text: text, Kids: shared}
					}
					shared = next
				}
				for _, l := range append(inRules(round...), inRules(shared...)...) {
					checkEnds(t, l)
				}
				checkEnds(t, []api.Node{{Op: "rule", Kids: []api.Node{{Op: "none"}, {Op: "if", Kids: []api.Node{{Op: "group", Kids: round}, {Op: "block", Kids: round}}}}}})
			}
		}
	}
}

// P0: Find ends and doesn't panic at deep trees and wide ones.
func TestGreatTrees(t *testing.T) {
	for _, op := range allOps() {
		for _, size := range []int{200, 30000, 79000, 100000} {
			var deep []api.Node
			for range size {
				deep = []api.Node{{Op: op, Text: ">", Kids: deep}}
			}
			wide := make([]api.Node, size)
			for i := range wide {
				wide[i] = api.Node{Op: op, Text: "="}
			}
			for _, l := range append(inRules(deep...), inRules(wide...)...) {
				checkEnds(t, l)
			}
		}
	}
	var deepest []api.Node
	for range 3000000 {
		deepest = []api.Node{{Op: "group", Kids: deepest}}
	}
	for _, l := range inRules(deepest...) {
		checkEnds(t, l)
	}
}

// P0: Find ends and doesn't panic at trees with Kids that aren't theirs, too few or too many.
func TestOtherTrees(t *testing.T) {
	checkEnds(t, nil)
	checkEnds(t, make([]api.Node, 3))
	ops, texts := allOps(), strings.Fields("a b NF = += > < ++ cat split sub length")
	for _, outer := range ops {
		for _, inner := range ops {
			for count := range 4 {
				for _, text := range append(texts, "") {
					var kids []api.Node
					for range count {
						kids = append(kids, api.Node{Op: inner, Text: text, Kids: []api.Node{{Op: "var", Text: "a"}, {Op: outer, Text: text}}[:count/2]})
					}
					for _, l := range inRules(api.Node{Op: outer, Text: text, Kids: kids}) {
						checkEnds(t, l)
					}
				}
			}
		}
	}
}

// P0: Find ends and doesn't panic at made-up trees, most of statements and expressions with as many Kids as they may have.
func TestMadeTrees(t *testing.T) {
	bits := sample.Bits(400000)
	next := func(n int) int {
		b := bits[0] >> 33 % uint64(n)
		bits = bits[1:]
		return int(b)
	}
	ops := append(allOps(), strings.Fields("expr expr if if assign assign bin pre post var var var elem group block")...)
	texts := strings.Fields("a b c NF NR = = += > > < ++ cat split sub length")
	var tree func(deep int) api.Node
	tree = func(deep int) api.Node {
		n := api.Node{Op: ops[next(len(ops))], Text: texts[next(len(texts))]}
		for range min(next(4), deep) {
			n.Kids = append(n.Kids, tree(deep-1))
		}
		return n
	}
	answered := 0
	for len(bits) > 5000 {
		for _, l := range inRules(tree(4), tree(3)) {
			checkEnds(t, l)
			if _, ok := Find(l); ok {
				answered++
			}
		}
	}
	if answered < 1000 {
		t.Errorf("%d trees are accepted", answered)
	}
}

// Of programs whose names aren't right nothing is promised but an answer: none is accepted.
func TestWrongNames(t *testing.T) {
	for _, item := range []api.Node{
		{Op: "func", Text: "NR", Kids: []api.Node{{Op: "params"}, {Op: "block"}}},
		{Op: "rule", Kids: []api.Node{{Op: "var", Text: "s"}, {Op: "elem", Text: "s"}}},
		{Op: "END", Kids: []api.Node{{Op: "call", Text: "f"}}},
	} {
		if got := shown(Find(append(parsed(t, "{ s += 1 }"), item))); got != "refused" {
			t.Errorf("beside %v: %s", item, got)
		}
	}
}

// manySources gives programs with updates of all kinds, and some that aren't accepted.
func manySources() []string {
	return []string{
		"", "$1", "{ s += $1; n[$2]++ } /x/ { last = $0 }", "{ if ($1 > most) { most = $1 } if (length < least) least = length }", "BEGIN { x = 1; f() }\nfunction f() { exit }\nEND { for (k in a) print a[k] }",
		"{ c++; b++; a[1]++; a[2] -= $1 }\n$1 { while ($1--) c += 2 }", "{ s++; print s }", "{ s++; s = 1 }", "$1, $2", "{ exit }",
	}
}

// R4: what is handed in stays as it is.
func TestArgument(t *testing.T) {
	for _, s := range manySources() {
		l := parsed(t, s)
		Find(l)
		if !reflect.DeepEqual(l, parsed(t, s)) {
			t.Errorf("the items of %q are changed", s)
		}
	}
}

// within tells whether the bytes of piece lie in the memory of s.
func within(piece, s string) bool {
	if piece == "" || s == "" {
		return false
	}
	at, from := uintptr(unsafe.Pointer(unsafe.StringData(piece))), uintptr(unsafe.Pointer(unsafe.StringData(s)))
	return at >= from && at < from+uintptr(len(s))
}

// checkNotWithin tells that a text shares no memory with a text of a tree.
func checkNotWithin(t *testing.T, s string, l []api.Node) {
	t.Helper()
	for _, n := range l {
		if within(s, n.Text) {
			t.Errorf("%q shares memory with a tree", s)
		}
		checkNotWithin(t, s, n.Kids)
	}
}

// R4: what is answered is the caller's own.
func TestOwnAnswers(t *testing.T) {
	for _, s := range manySources() {
		items := parsed(t, s)
		first, ok := Find(items)
		second, _ := Find(items)
		want := shown(second, ok)
		for _, u := range first {
			checkNotWithin(t, u.Name, items)
		}
		room := first[:cap(first)]
		for i := range room {
			room[i] = api.Update{Name: "spoilt"}
		}
		if got := shown(second, ok); got != want || shown(Find(items)) != want {
			t.Errorf("an answer to %q changes with another: %s, not %s", s, got, want)
		}
	}
}

// R7: Find answers the same again, also where several ask at once.
func TestSameAnswers(t *testing.T) {
	type asked struct {
		items []api.Node
		want  string
	}
	var all []asked
	for _, s := range manySources() {
		l := parsed(t, s)
		all = append(all, asked{l, shown(Find(l))})
	}
	var done sync.WaitGroup
	for range 8 {
		done.Go(func() {
			for range 100 {
				for _, a := range all {
					if got := shown(Find(a.items)); got != a.want {
						t.Errorf("%s, then %s", a.want, got)
					}
				}
			}
		})
	}
	done.Wait()
}
