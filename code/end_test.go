package code

import (
	"math"
	"reflect"
	"slices"
	"strconv"
	"strings"
	"sync"
	"testing"
	"unsafe"

	"tedder/api"
	"tedder/names"
	"tedder/sample"
	"tedder/syntax"
)

// P13.1, P0: the greatest programs are compiled, too: of about as many tokens as may be, and as deep.
func TestGreatest(t *testing.T) {
	within := func(ahead, behind string, count int) string {
		return strings.Repeat(ahead, count) + "x" + strings.Repeat(behind, count)
	}
	var params []string
	for i := range 4000 {
		params = append(params, "p"+strconv.Itoa(i))
	}
	list := strings.Join(params, ",")
	for _, s := range []string{
		strings.Repeat("{}", 10000),
		strings.Repeat("a\n", 10000),
		"{" + strings.Repeat("for(;;);", 2856) + "}",
		"{" + strings.Repeat(strings.Repeat("a ", 190)+";", 104) + "}",
		"{" + strings.Repeat("print;", 9990) + "}",
		"{" + strings.Repeat("next;", 9990) + "}",
		"{ while (x) {" + strings.Repeat("break;", 5000) + strings.Repeat("continue;", 3800) + "} }",
		"BEGIN { x = " + within("(", ")", 190) + " }",
		"BEGIN { x = " + within("a[", "]", 190) + " }",
		"BEGIN { x = " + within("x ? x : (", ")", 95) + " }",
		"BEGIN { x = " + strings.Repeat("x && ", 190) + "x }",
		"BEGIN { " + within("{ ", " }", 190) + " }",
		"BEGIN { " + within("while (x) ", "", 190) + " }",
		"BEGIN { " + within("for (k in a) ", "", 190) + " }",
		"BEGIN { " + within("do ", "; while (x)", 190) + " }",
		"BEGIN { " + within("if (x) ", "; else x", 190) + " }",
		"function f() { " + strings.Repeat("for (k in a) ", 190) + "return x }",
		"function f(" + list + ") { }\n{ " + strings.Repeat("f();", 2900) + "}",
		"function f(" + list + ") { f(" + list + ") }",
		"function f() { }\nBEGIN { x = " + within("(f() ", ")", 95) + " }",
		"function f(a) { }\nBEGIN { x = " + within("f(", ")", 190) + " }",
		"BEGIN { " + within("x = ", "", 190) + " }",
		"BEGIN { a[" + list + "] = sprintf(" + list + ") }",
	} {
		compiled(t, s)
	}
}

// P0: Compile answers with names that aren't those of the program, and its code is sound then, too.
func TestOtherNames(t *testing.T) {
	sources := append(manySources(), "{ f(a); g(b, b) }", "{ a[1] = a; a() }", "function f(a, a) { f(a, 1) }\nfunction f(f) { f[1] }", "function f(NR) { NR = f }")
	lists := [][]string{nil, {""}, {"a", "b", "f", "x"}, {"x", "f", "b", "a"}, {"f.a", "f.b", "g.a"}, {"g.a", "f.b", "f.a", "."}, {"a", "a"}}
	for _, s := range sources {
		items, ok := syntax.Parse(s)
		if !ok {
			t.Fatalf("%q is no program", s)
		}
		for _, arrays := range lists {
			for _, params := range lists {
				parts := Compile(items, api.Names{Arrays: arrays, Params: params})
				if !Check(parts) || len(parts) < len(items) {
					t.Errorf("%q with the arrays %q and %q: %s", s, arrays, params, shownAll(parts))
				}
			}
		}
	}
	if parts := Compile(nil, api.Names{Arrays: []string{"a"}}); len(parts) != 0 {
		t.Errorf("%d parts of nothing", len(parts))
	}
}

// P0: Check ends at long code, and at code of whatever numbers.
func TestGreatCode(t *testing.T) {
	const long = 1000000
	row, up, round := make([]api.Op, long), make([]api.Op, long), make([]api.Op, long)
	for i := range long {
		row[i] = fork(0, 0, long-1)
		up[i] = op(0, 1000000)
		round[i] = leap(0, 0, (i+long/2+1)%long)
	}
	row[long-1] = end(0, 0)
	up[long-1] = end((long-1)*1000000, 0)
	checkSound(t, 0, row, up)
	checkSound(t, 2, round)
	up[long-1].Pop++
	row[long-2].Push++
	round[long-2] = leap(0, 1, 3)
	checkSound(t, -1, row, up, round)
	numbers := []int{math.MinInt, math.MinInt32, -1, 0, 1, 2, 1000000, 1000001, math.MaxInt32, math.MaxInt - 1, math.MaxInt}
	for _, pop := range numbers {
		for _, push := range numbers {
			for _, jump := range numbers {
				o := api.Op{Do: "\xff", Text: "\x00", N: push, Pop: pop, Push: push, Jump: jump}
				last := o
				last.Last = true
				for _, ops := range [][]api.Op{{o}, {last}, {o, o}, {last, o}, {o, last}, {o, last, end(0, 0)}, {op(0, 1), o, last}} {
					checkPlain(t, ops, "rule")
				}
			}
		}
	}
}

// manySources gives programs with nodes of all kinds.
func manySources() []string {
	return []string{
		"", "a; b, c {}", "BEGIN { print a, b > c; printf(a, b) }", "function f(a, b) { return a b c + d * -e ^ 2 }",
		"{ if (a) b; else { c; d }; while (a) b; do c; while (d); for (k in l) break; for (;;) continue }", "{ for (a; b; c) d; for (a in l) delete l[d, e] }",
		"a ? b : c = d || e && f in g", "(a, b) in c ~ d < e", "function f(a, b, c) { g(c); a[1] }\nfunction g(a) { $a++; exit a }\n{ f(x, g(b), $d++) }",
		"substr(a, b, c) sub(a, b, d[e, f]) split(a, b1, / /) gsub(/x/, y) length match(a, /b/)", "{ print; print(a, b) in c, d; exit a; next }",
	}
}

// roomy gives the same trees, with nodes in the room behind each list.
func roomy(l []api.Node) []api.Node {
	behind := []api.Node{{Op: "var", Text: "behind"}, {Op: "num", Text: "1"}}
	var own []api.Node
	for _, n := range l {
		n.Kids = roomy(n.Kids)
		own = append(own, n)
	}
	return slices.Concat(own, behind)[:len(own)]
}

// whole gives trees with what is in the room behind each list.
func whole(l []api.Node) []api.Node {
	var own []api.Node
	for _, n := range l[:cap(l)] {
		n.Kids = whole(n.Kids)
		own = append(own, n)
	}
	return own
}

// R4: what is handed in stays as it is, with the room behind it.
func TestArguments(t *testing.T) {
	for _, s := range manySources() {
		items, _ := syntax.Parse(s)
		n, ok := names.Resolve(items)
		if !ok {
			t.Fatalf("the names of %q aren't right", s)
		}
		own, sameNames := roomy(items), n
		for _, list := range []*[]string{&sameNames.Funcs, &sameNames.Scalars, &sameNames.Arrays, &sameNames.Params} {
			*list = slices.Clone(*list)
		}
		before := whole(own)
		parts := Compile(own, n)
		if !reflect.DeepEqual(whole(own), before) || !reflect.DeepEqual(n, sameNames) {
			t.Errorf("Compile changes the items or names of %q", s)
		}
		if !reflect.DeepEqual(parts, Compile(items, n)) {
			t.Errorf("the code of %q hangs on the room behind its lists", s)
		}
		want := shownAll(parts)
		Check(parts)
		if shownAll(parts) != want {
			t.Errorf("Check changes the code of %q", s)
		}
	}
}

// texts gives all texts of trees.
func texts(l []api.Node) []string {
	var all []string
	for _, n := range l {
		all = append(all, n.Op, n.Text)
		all = append(all, texts(n.Kids)...)
	}
	return all
}

// R4: an answer shares no memory with an argument, nor with another answer, nor do two of its lists.
func TestOwnAnswers(t *testing.T) {
	for _, s := range manySources() {
		items, _ := syntax.Parse(s)
		n, _ := names.Resolve(items)
		first, second := Compile(items, n), Compile(items, n)
		want := shownAll(second)
		handed := map[*byte]bool{}
		for _, text := range texts(items) {
			handed[unsafe.StringData(text)] = text != ""
		}
		for _, p := range first {
			told := []string{p.Kind, p.Name}
			for _, o := range p.Ops {
				told = append(told, o.Do, o.Text)
			}
			for _, text := range told {
				if text != "" && handed[unsafe.StringData(text)] {
					t.Errorf("%q in the code of %q is the argument's", text, s)
				}
			}
		}
		for i := range first {
			held := slices.Clone(first[i].Ops)
			room := first[i].Ops[:cap(first[i].Ops)]
			for k := range room {
				room[k] = api.Op{Do: "spoilt"}
			}
			others := slices.Clone(first)
			others[i].Ops = held
			if shownAll(second) != want || shownAll(others) != want {
				t.Errorf("a list of the code of %q is shared", s)
			}
			copy(room, held)
		}
	}
}

// R7: Compile and Check answer the same again, also where several ask at once.
func TestSameAnswers(t *testing.T) {
	type asked struct {
		items []api.Node
		names api.Names
		want  []api.Part
	}
	var all []asked
	for _, s := range manySources() {
		items, _ := syntax.Parse(s)
		n, _ := names.Resolve(items)
		all = append(all, asked{items, n, Compile(items, n)})
	}
	wrong := []api.Part{{Kind: "rule", Ops: []api.Op{op(1, 0), end(0, 0)}}}
	var done sync.WaitGroup
	for range 8 {
		done.Go(func() {
			for range 200 {
				for _, a := range all {
					if got := Compile(a.items, a.names); !reflect.DeepEqual(got, a.want) || !Check(got) || Check(wrong) {
						t.Errorf("%s, then %s", shownAll(a.want), shownAll(got))
					}
				}
			}
		})
	}
	done.Wait()
}

// R5: what the chapter doesn't tell of a part is empty: a Name has a func alone.
func TestNames(t *testing.T) {
	for _, s := range manySources() {
		for _, p := range compiled(t, s) {
			if (p.Kind == "func") != (p.Name != "") {
				t.Errorf("%q: %s %q", s, p.Kind, p.Name)
			}
		}
	}
	for _, name := range sample.Texts("f_1", 3) {
		if s := "function " + name + "() { }"; name != "" && name[0] != '1' {
			checkCode(t, []source{{s, "func " + name + "(params end.)"}})
		}
	}
}
