package names

import (
	"reflect"
	"slices"
	"strconv"
	"strings"
	"sync"
	"testing"

	"tedder/api"
	"tedder/sample"
)

// manyNames gives so many names that begin alike.
func manyNames(first string, count int) []string {
	var l []string
	for i := range count {
		l = append(l, first+strconv.Itoa(i))
	}
	return l
}

// P7.1: the greatest programs are resolved, too: of about as many tokens as may be, with as many nodes as tokens may have.
func TestGreatest(t *testing.T) {
	chain := strings.Repeat("a ", 190)
	checkNames(t, []program{
		{strings.Repeat("{}", 10000), "|||"},
		{strings.Repeat("{a}", 6666), "|a||"},
		{strings.Repeat("{a b}", 5000), "|a b||"},
		{strings.Repeat("a\n", 10000), "|a||"},
		{strings.Repeat("{"+chain+"}", 104), "|a||"},
		{"{" + strings.Repeat(chain+";", 104) + "}", "|a||"},
		{"{" + strings.Repeat("for(;;);", 2856) + "}", "|||"},
	})
	params, others := strings.Join(manyNames("p", 2500), ","), manyNames("q", 2500)
	call := "function f(" + params + ") { f(" + params + ") }\n{ f(" + strings.Join(others, ",") + ") }"
	slices.Sort(others)
	checkNames(t, []program{{call, "f|" + strings.Join(others, " ") + "||"}})
}

// P7.1: a kind goes through as many calls as there may be, in either direction.
func TestLongCalls(t *testing.T) {
	var functions []string
	for i := range 1000 {
		functions = append(functions, "function f"+strconv.Itoa(i)+"(a) { f"+strconv.Itoa(i+1)+"(a) }\n")
	}
	forth := strings.Join(functions, "")
	slices.Reverse(functions)
	for _, s := range []string{forth, strings.Join(functions, "")} {
		n, ok := Resolve(parsed(t, s+"function f1000(b) { }\n{ f0(x); x[1] }"))
		if !ok || len(n.Params) != 1001 || n.Params[1000] != "f999.a" || n.Params[4] != "f1000.b" || shown(api.Names{Scalars: n.Scalars, Arrays: n.Arrays}) != "||x|" {
			t.Errorf("%d parameters are arrays, %v", len(n.Params), ok)
		}
		n, ok = Resolve(parsed(t, s+"function f1000(b) { b[1] }\n{ f0(x) }"))
		if !ok || len(n.Params) != 1001 || len(n.Arrays) != 1 {
			t.Errorf("%d parameters are arrays, %v", len(n.Params), ok)
		}
		n, ok = Resolve(parsed(t, s+"function f1000(b) { }\n{ f0(x); x }"))
		if !ok || len(n.Params) != 0 || len(n.Scalars) != 1 {
			t.Errorf("%d parameters are arrays, %v", len(n.Params), ok)
		}
		checkWrong(t, s+"function f1000(b) { b[1] }\n{ f0(x); x }", s+"function f1000(b) { b = 1 }\n{ f0(x); x[1] }", s+"function f1000(b) { b = 1 }\nfunction g(a) { a[1]; f0(a) }")
	}
}

// allOps gives the Op of every node that there is, and of one that there isn't.
func allOps() []string {
	return strings.Fields("BEGIN END func params rule range block expr print printf next break continue exit return delete do if while for forin none assign cond bin in unary pre post num str ere group field var elem call built other")
}

// checkEnds asks for an answer of whatever trees, and for nothing beside false.
func checkEnds(t *testing.T, l []api.Node) {
	t.Helper()
	if n, ok := Resolve(l); !ok && (n.Funcs != nil || n.Scalars != nil || n.Arrays != nil || n.Params != nil) {
		t.Errorf("%s beside false", shown(n))
	}
}

// P0: Resolve ends and doesn't panic at trees that hold themselves, or share what is in them.
func TestRoundTrees(t *testing.T) {
	for _, op := range allOps() {
		for _, text := range []string{"f", "split", ""} {
			for _, count := range []int{1, 2, 3, 50} {
				round := make([]api.Node, count)
				for i := range round {
					round[i] = api.Node{Op: op, Text: text, Kids: round}
				}
				checkEnds(t, round)
				checkEnds(t, []api.Node{{Op: "func", Text: "f", Kids: round}})
				var shared []api.Node
				for range 100 {
					next := make([]api.Node, count)
					for i := range next {
						next[i] = api.Node{Op: op, Text: text, Kids: shared}
					}
					shared = next
				}
				checkEnds(t, shared)
			}
		}
	}
}

// P0: Resolve ends and doesn't panic at a very deep tree.
func TestDeepest(t *testing.T) {
	var deep []api.Node
	for range 5000000 {
		deep = []api.Node{{Op: "group", Kids: deep}}
	}
	checkEnds(t, deep)
}

// P0: Resolve ends and doesn't panic at deep trees and wide ones.
func TestGreatTrees(t *testing.T) {
	for _, op := range allOps() {
		for _, size := range []int{200, 30000, 100000} {
			var deep []api.Node
			for range size {
				deep = []api.Node{{Op: op, Text: "f", Kids: deep}}
			}
			checkEnds(t, deep)
			wide := make([]api.Node, size)
			for i := range wide {
				wide[i] = api.Node{Op: op, Text: "f"}
			}
			checkEnds(t, wide)
			checkEnds(t, []api.Node{{Op: "func", Text: "f", Kids: []api.Node{{Op: "params", Kids: wide}, {Op: "call", Text: "f", Kids: wide}}}})
			checkEnds(t, []api.Node{{Op: "rule", Kids: wide}})
		}
	}
}

// P0: Resolve ends and doesn't panic at trees with Kids that aren't theirs, too few or too many.
func TestOtherTrees(t *testing.T) {
	checkEnds(t, nil)
	checkEnds(t, make([]api.Node, 3))
	ops := allOps()
	for _, outer := range ops {
		for _, inner := range ops {
			for count := range 4 {
				var kids []api.Node
				for range count {
					kids = append(kids, api.Node{Op: inner, Text: "f", Kids: []api.Node{{Op: "var", Text: "a"}, {Op: outer, Text: "split"}}})
				}
				for _, text := range []string{"f", "split", "NR", ""} {
					n := api.Node{Op: outer, Text: text, Kids: kids}
					checkEnds(t, []api.Node{n})
					checkEnds(t, []api.Node{{Op: "func", Text: "f", Kids: []api.Node{n, n}}, n, n})
					checkEnds(t, []api.Node{{Op: "func", Text: text, Kids: kids}, {Op: "rule", Kids: []api.Node{n, n}}})
				}
			}
		}
	}
	bits := sample.Bits(300000)
	var tree func(deep int) api.Node
	tree = func(deep int) api.Node {
		n := api.Node{Op: ops[bits[0]>>33%uint64(len(ops))], Text: []string{"f", "g", "a", "b", "split", "NR"}[bits[1]>>33%6]}
		count := int(bits[2] >> 33 % 4)
		bits = bits[3:]
		for range min(count, deep) {
			n.Kids = append(n.Kids, tree(deep-1))
		}
		return n
	}
	for len(bits) > 5000 {
		checkEnds(t, []api.Node{tree(4), {Op: "func", Text: "g", Kids: []api.Node{tree(2), tree(4)}}, tree(5)})
	}
}

// manySources gives programs with names of all kinds, and some that aren't right.
func manySources() []string {
	return []string{
		"", "a", "{ f(a); g(b) }\nfunction f(x, y) { x[1]; y = z }\nfunction g(u) { f(u) }", "{ for (k in a) delete a[k]; split(s, b) }",
		"function f() { }\nfunction g() { }\nfunction h() { }\n{ c[1]; b[1]; a[1]; z; y; x }", "{ a[a] }", "{ f() }", "function f(a, a) { }",
	}
}

// R4: what is handed in stays as it is.
func TestArgument(t *testing.T) {
	for _, s := range manySources() {
		l := parsed(t, s)
		Resolve(l)
		if !reflect.DeepEqual(l, parsed(t, s)) {
			t.Errorf("the items of %q are changed", s)
		}
	}
}

// R4: no two lists of answers share memory.
func TestOwnLists(t *testing.T) {
	for _, s := range manySources() {
		l := parsed(t, s)
		first, _ := Resolve(l)
		second, _ := Resolve(l)
		want := shown(second)
		lists := [][]string{first.Funcs, first.Scalars, first.Arrays, first.Params}
		for i, list := range lists {
			held := slices.Clone(list)
			room := list[:cap(list)]
			for k := range room {
				room[k] = "spoilt"
			}
			others := slices.Clone(lists)
			others[i] = held
			if shown(second) != want || shown(api.Names{Funcs: others[0], Scalars: others[1], Arrays: others[2], Params: others[3]}) != want {
				t.Errorf("a list of an answer to %q is shared", s)
			}
			copy(list, held)
		}
	}
}

// R7: Resolve answers the same again, also where several ask at once.
func TestSameAnswers(t *testing.T) {
	type asked struct {
		items []api.Node
		want  api.Names
		ok    bool
	}
	var all []asked
	for _, s := range manySources() {
		l := parsed(t, s)
		n, ok := Resolve(l)
		all = append(all, asked{l, n, ok})
	}
	var done sync.WaitGroup
	for range 8 {
		done.Go(func() {
			for range 200 {
				for _, a := range all {
					if n, ok := Resolve(a.items); ok != a.ok || !reflect.DeepEqual(n, a.want) {
						t.Errorf("%s, %v, then %s, %v", shown(a.want), a.ok, shown(n), ok)
					}
				}
			}
		})
	}
	done.Wait()
}
