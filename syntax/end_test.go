package syntax

import (
	"strings"
	"sync"
	"testing"

	"tedder/api"
	"tedder/sample"
)

// P0: Parse ends and doesn't panic at long texts, and no tree is too deep.
func TestLongTexts(t *testing.T) {
	for _, part := range strings.Fields("a a+ a- -a ! ( ) (a, ) [ a[ ] $ $++ ++ ++a a++ { } {{a} ; , 1 1^ 1^- a= a? a?b: : a&& a|| a~ a< ~ f( f() length length( int( sub(a,b, \"s\" /a/ {if(a) {if(a)b;else {while(a) {do {for(;;) {for(a {for(a;b;c) {for(a|in|b) if(a) else do while( for( {print {print( {print(a, {print>a {print(a)>( print printf {exit {next next; BEGIN BEGIN{} END function function|f( function|f(){} function|f(a,b){} {return delete|a[ {delete|a[1]; a;b; a,b in a|in|b in|b {a;} a{} break continue;") {
		part = strings.ReplaceAll(part, "|", " ")
		for _, ahead := range []string{"", "{", "{while(a)", "a(", "function f(", "{print "} {
			for _, between := range []string{" ", "\n"} {
				s := ahead + strings.Repeat(part+between, 21000/len(part+between))
				if l, ok := Parse(s); !ok && l != nil {
					t.Errorf("Parse of many %q answers items and false", part)
				} else if ok && !shallow(l) {
					t.Errorf("Parse of many %q answers a deep tree", part)
				}
			}
		}
	}
}

// shallow tells whether no tree is too deep.
func shallow(l []api.Node) bool {
	for _, n := range l {
		if depth(n) > api.MaxDepth {
			return false
		}
	}
	return true
}

// P0: Parse ends and doesn't panic at whatever bytes, and wherever a program is cut off.
func TestAnyBytes(t *testing.T) {
	var b []byte
	for _, bits := range sample.Bits(100000) {
		b = append(b, byte(bits>>40))
	}
	for i := 0; i+12 < len(b); i += 5 {
		s := string(b[i : i+int(b[i])%12])
		if l, ok := Parse(s); !ok && l != nil {
			t.Errorf("Parse(%q) answers items and false", s)
		}
	}
	const program = "BEGIN { x = y[1, 2] }\nfunction f(a,\nb) { if (a > b) return a; else { while (b) b--; do ; while (c) } }\n/r/, $1 ~ 2 { for (k in y) print f(k), (1, 2) in y > \"f\" k; for (;;) break; printf(\"a\", b) >> c; delete y[1] }\n!x { next } END { exit -length }\n"
	g := newGrammar()
	for i := range len(program) + 1 {
		if l, ok := Parse(program[:i]); !ok && l != nil {
			t.Errorf("Parse(%q) answers items and false", program[:i])
		}
		if l, ok := Parse(program[i:]); !ok && l != nil {
			t.Errorf("Parse(%q) answers items and false", program[i:])
		}
	}
	for i := 0; i < len(program); i += 7 {
		checkPlain(t, g, program[max(0, i-60):i])
	}
}

// spoil changes all that nodes have, and all that room behind their lists has.
func spoil(l []api.Node) {
	l = l[:cap(l)]
	for i := range l {
		spoil(l[i].Kids)
		l[i] = api.Node{Op: "spoilt", Text: "spoilt", Kids: append(l[i].Kids, api.Node{Op: "spoilt"})}
	}
}

// manySources gives programs with nodes of all kinds.
func manySources() []string {
	return []string{
		"", "a", "a; b, c {}", "BEGIN { print a, b > c; printf(a, b) }", "function f(a, b) { return a b c + d * -e ^ 2 }",
		"{ if (a) b; else { c; d }; while (a) b; do c; while (d) }", "{ for (a; b; c) d; for (a in b) delete c[d, e] }",
		"a ? b : c = d || e && f in g", "(a, b) in c ~ d < e", "f(a, g(b, c), $d++)", "substr(a, b, c) sub(a, b, c[d, e])", "{ print; print(a, b) in c, d; exit a; next }",
	}
}

// R4: what is answered is the caller's own: no other answer changes with it.
func TestOwnAnswers(t *testing.T) {
	for _, s := range manySources() {
		first, _ := Parse(s)
		second, _ := Parse(s)
		want := shownAll(second)
		spoil(first)
		if shownAll(second) != want {
			t.Errorf("an answer to %q changes with another", s)
		}
		checkTrees(t, []source{{s, want}})
	}
}

// each calls visit with the place of each list in l, and of l itself.
func each(l *[]api.Node, visit func(*[]api.Node)) {
	visit(l)
	for i := range *l {
		each(&(*l)[i].Kids, visit)
	}
}

// R4: no two lists of one answer share memory.
func TestOwnLists(t *testing.T) {
	for _, s := range manySources() {
		l, _ := Parse(s)
		want := shownAll(l)
		each(&l, func(kids *[]api.Node) {
			held := append([]api.Node(nil), *kids...)
			room := (*kids)[:cap(*kids)]
			for i := range room {
				room[i] = api.Node{Op: "spoilt"}
			}
			_ = append(*kids, api.Node{Op: "spoilt"})
			*kids = held
			if got := shownAll(l); got != want {
				t.Errorf("a list in an answer to %q is shared: %s", s, got)
			}
		})
	}
}

// R7: Parse answers the same again, also where several ask at once.
func TestSameAnswers(t *testing.T) {
	var sources []source
	for _, s := range manySources() {
		l, _ := Parse(s)
		sources = append(sources, source{s, shownAll(l)})
	}
	var all sync.WaitGroup
	for range 8 {
		all.Go(func() {
			for range 30 {
				checkTrees(t, sources)
				checkNone(t, "a = 1 = 2", "{", "(", "{ break }")
			}
		})
	}
	all.Wait()
}
