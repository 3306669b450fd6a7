package syntax

import (
	"strings"
	"testing"

	"tedder/api"
)

// P6.1: next stands in rules alone.
func TestNext(t *testing.T) {
	checkTrees(t, []source{
		{"{ next }", "rule(none block(next))"},
		{"a { next }", "rule(var:a block(next))"},
		{"a, b { next }", "range(var:a var:b block(next))"},
		{"{ if (a) { while (b) next } }", "rule(none block(if(var:a block(while(var:b next)))))"},
		{"function f() {} { next } BEGIN {} { next }", "func:f(params block) rule(none block(next)) BEGIN(block) rule(none block(next))"},
	})
	for _, s := range []string{"next", "if (a) next", "while (a) next", "{ { next } }", "for (;;next) a", "for (next;;) a", "do next; while (a)", "a; next; b"} {
		checkNone(t, "BEGIN {"+s+"}", "END {"+s+"}", "function f() {"+s+"}", "{ next } BEGIN {"+s+"}", "function f(next) {}")
	}
}

// P6.1: return stands in functions alone.
func TestReturn(t *testing.T) {
	checkTrees(t, []source{
		{"function f() { if (a) return; else return b }", "func:f(params block(if(var:a return return(var:b))))"},
		{"function f() { for (return a;;return) return }", "func:f(params block(for(return(var:a) none return return)))"},
		{"{} function f() { { return } }", "rule(none block) func:f(params block(block(return)))"},
	})
	for _, s := range []string{"return", "return 1", "if (a) return", "while (a) return 1", "{ return }", "for (;;return) a", "a; return; b"} {
		checkNone(t, "{"+s+"}", "a {"+s+"}", "a, b {"+s+"}", "BEGIN {"+s+"}", "END {"+s+"}", "function f() { return } {"+s+"}", "function f() { return } BEGIN {"+s+"}")
	}
}

// P6.1: break and continue stand in a loop's statement alone, which what is ahead of it isn't.
func TestLoopsOnly(t *testing.T) {
	for _, s := range []string{"break", "continue"} {
		checkStatements(t, []source{
			{"while (a) " + s, "while(var:a " + s + ")"},
			{"do " + s + "; while (a)", "do(" + s + " var:a)"},
			{"for (;;) " + s, "for(none none none " + s + ")"},
			{"for (a in b) " + s, "forin:a(var:b " + s + ")"},
			{"while (a) { if (b) { c; " + s + " } else " + s + " }", "while(var:a block(if(var:b block(expr(var:c) " + s + ") " + s + ")))"},
			{"while (a) { while (b) c; " + s + " }", "while(var:a block(while(var:b expr(var:c)) " + s + "))"},
			{"while (a) for (" + s + ";;" + s + ") b", "while(var:a for(" + s + " none " + s + " expr(var:b)))"},
		})
		checkTrees(t, []source{
			{"BEGIN { while (a) " + s + " }", "BEGIN(block(while(var:a " + s + ")))"},
			{"END { while (a) " + s + " }", "END(block(while(var:a " + s + ")))"},
			{"function f() { while (a) " + s + " }", "func:f(params block(while(var:a " + s + ")))"},
		})
		for _, outside := range []string{s, "if (a) " + s, "{ " + s + " }", "while (a) b; " + s, "while (a) {b} " + s, "do a; while (b); " + s, "for (;;) a; " + s, "for (a in b) c; " + s, "for (" + s + ";;) a", "for (;;" + s + ") a", "if (a) while (b) c; else " + s} {
			checkNone(t, "{"+outside+"}", "BEGIN {"+outside+"}", "END {"+outside+"}", "function f() {"+outside+"}", "{ while (a) b } {"+outside+"}")
		}
		checkNoStatements(t, "while (a) "+s+" 1", "while (a) "+s+" b", "while (a) { "+s+" "+s+" }", "while ("+s+") a", "while (a) ("+s+")")
	}
}

// builtWith gives a call of a built with so many Kids, the third one a field, and its tree.
func builtWith(name string, count int) source {
	kids := strings.Fields("var:a var:b field(num:1) var:d var:e")[:count]
	c := source{name + "(" + strings.Join(strings.Fields("a b $1 d e")[:count], ", ") + ")", "built:" + name}
	if count > 0 {
		c.tree += "(" + strings.Join(kids, " ") + ")"
	}
	return c
}

// P6.1: each built has as many Kids as it may have.
func TestCounts(t *testing.T) {
	for name, counts := range map[string]string{
		"length": "01", "substr": "23", "index": "2", "match": "2", "split": "23", "sub": "23", "gsub": "23", "sprintf": "12345", "tolower": "1", "toupper": "1", "int": "1",
	} {
		for count := range 6 {
			c := builtWith(name, count)
			if strings.Contains(counts, string(rune('0'+count))) {
				checkPatterns(t, []source{c})
				spaced := strings.Replace(c.text, "(", " (", 1)
				checkPatterns(t, []source{{spaced, c.tree}, {"-" + c.text + " b", "bin:cat(unary:-(" + c.tree + ") var:b)"}})
			} else {
				checkNone(t, c.text, "{"+c.text+"}", "a + "+c.text, "f("+c.text+")", "{ print "+c.text+" > a }")
			}
		}
		many := name + "(1" + strings.Repeat(", 1", 5000) + ")"
		if name == "sprintf" {
			checkTrees(t, []source{{many, "rule(built:sprintf(num:1" + strings.Repeat(" num:1", 5000) + ") none)"}})
		} else {
			checkNone(t, many)
		}
		if name != "length" {
			checkNone(t, name, name+" a", "$"+name, "{ "+name+" }", name+"[1]", name+"\n(a)")
		}
		checkNone(t, name+" = 1", name+"(a) = 1", name+"(a, b) = 1", name+"++", "++"+name+"(a)", "a in "+name, name+"(", name+"(a", name+"(,)", name+"(a,)", name+"(a b", name+"(a;b)", "function "+name+"() {}")
	}
	checkPatterns(t, []source{
		{"length", "built:length"},
		{"length()", "built:length"},
		{"length ( )", "built:length"},
		{"length > 3", "bin:>(built:length num:3)"},
		{"length + length", "bin:+(built:length built:length)"},
		{"length $1", "bin:cat(built:length field(num:1))"},
		{"length / 2", "bin:/(built:length num:2)"},
		{"length (a) b", "bin:cat(built:length(var:a) var:b)"},
		{"length((a))", "built:length(group(var:a))"},
		{"a[length]", "elem:a(built:length)"},
		{"sprintf(a)", "built:sprintf(var:a)"},
		{"sprintf((a, b) in c)", "built:sprintf(in:c(var:a var:b))"},
		{"substr(substr(a, 1), index(b, c))", "built:substr(built:substr(var:a num:1) built:index(var:b var:c))"},
	})
	checkNone(t, "length(a, b) in c", "length (a, b)", "sprintf()", "sprintf((a, b))", "length[1]")
}

// P6.1: split's second Kid is a var, sub's and gsub's third one a place.
func TestKindsOfKids(t *testing.T) {
	checkPatterns(t, []source{
		{"split(a, b)", "built:split(var:a var:b)"},
		{"split(a b, c, /d/)", "built:split(bin:cat(var:a var:b) var:c ere:d)"},
		{"split(1, a, 2)", "built:split(num:1 var:a num:2)"},
		{"split($1, a, b[1])", "built:split(field(num:1) var:a elem:b(num:1))"},
		{"sub(a, b)", "built:sub(var:a var:b)"},
		{"sub(/a/, \"b\", c)", "built:sub(ere:a str:b var:c)"},
		{"gsub(/a/, 1, c[1, 2])", "built:gsub(ere:a num:1 elem:c(num:1 num:2))"},
		{"gsub(a, b, $c)", "built:gsub(var:a var:b field(var:c))"},
		{"sub(a, b, $++c)", "built:sub(var:a var:b field(pre:++(var:c)))"},
		{"index(1, 2)", "built:index(num:1 num:2)"},
		{"match(1, (a))", "built:match(num:1 group(var:a))"},
		{"substr(1, 2, 3)", "built:substr(num:1 num:2 num:3)"},
	})
	for _, s := range []string{"1", `"b"`, "/b/", "(b)", "b c", "-b", "!b", "b++", "--b", "b + c", "b = c", "b ? c : d", "b in c", "(b, c) in d", "f(b)", "length", "int(b)", "b ~ c", "b && c"} {
		checkNone(t, "split(a, "+s+")", "split(a, "+s+", c)", "sub(a, b, "+s+")", "gsub(a, b, "+s+")", "{ print -gsub(a, b, "+s+") }")
	}
	checkNone(t, "split(a, b[1])", "split(a, $1)", "split(a, b[1], c)", "split(a, $b, c)")
}

// wrapped gives inner in count times what is ahead of it and behind it.
func wrapped(ahead string, count int, inner, behind string) string {
	return strings.Repeat(ahead, count) + inner + strings.Repeat(behind, count)
}

// depth gives how many nodes stand in one another at most, n among them.
func depth(n api.Node) int {
	deepest := 0
	for _, kid := range n.Kids {
		deepest = max(deepest, depth(kid))
	}
	return deepest + 1
}

// P6.1: a tree of MaxDepth nodes within nodes is a program, of one more it is none.
func TestDepths(t *testing.T) {
	for _, c := range []struct {
		ahead, behind, inner string
		around               string // what is around all, with an x for it
	}{
		{"(", ")", "1", "x"},
		{"(", ")", "1", "{ x }"},
		{"(", ")", "1", "BEGIN { print x }"},
		{"(", ")", "1", "a, x"},
		{"(", ")", "1", "a[x]"},
		{"(", ")", "1", "{ print (a, x) }"},
		{"(", ")", "1", "{ print a > x }"},
		{"(", ")", "1", "{ for (a; b; x) c }"},
		{"(", ")", "1", "{ do a; while (x) }"},
		{"(", ")", "1", "function f() { return x }"},
		{"- ", "", "a", "x"},
		{"!", "", "a", "{ a = b; x }"},
		{"$", "", "1", "x"},
		{"$", "", "a", "x++"},
		{"$", "", "a", "++x"},
		{"$++", "", "a", "x"},
		{"1^", "", "1", "x"},
		{"1^-", "", "1", "x"},
		{"a = ", "", "1", "x"},
		{"a[", "]", "1", "x"},
		{"f(", ")", "", "x"},
		{"int(", ")", "1", "x"},
		{"a ? b : ", "", "c", "x"},
		{"a ? ", " : c", "b", "x"},
		{"", " + 1", "1", "x"},
		{"", " * 1", "1", "x"},
		{"", " 1", "1", "x"},
		{"", " ~ 1", "1", "x"},
		{"", " in a", "1", "x"},
		{"", " && 1", "1", "x"},
		{"", " || 1", "1", "x"},
		{"(a, ", ") in b", "1", "x"},
		{"{", "}", "", "x"},
		{"{", "}", "", "BEGIN x"},
		{"{", "}", "", "function f() x"},
		{"if (a) ", "", ";", "{x}"},
		{"if (a) ; else ", "", ";", "{x}"},
		{"while (a) ", "", ";", "{x}"},
		{"for (;;) ", "", ";", "{x}"},
		{"for (a in b) ", "", ";", "{x}"},
		{"do ", " while (a);", ";", "{x}"},
		{"do {", "} while (a)", "", "{x}"},
	} {
		deepest := 0
		for count := 80; count < 320; count++ {
			s := strings.Replace(c.around, "x", wrapped(c.ahead, count, c.inner, c.behind), 1)
			if l, ok := Parse(s); ok {
				deepest = max(deepest, depth(l[0]))
				checkNone(t, strings.Repeat("{}", 3)+s+"@")
			}
		}
		if deepest < api.MaxDepth-1 || deepest > api.MaxDepth {
			t.Errorf("the deepest tree of %q is of %d nodes", c.ahead+c.behind, deepest)
		}
	}
}

// P6.1: where exactly a tree is too deep.
func TestDeepest(t *testing.T) {
	for _, c := range []struct {
		ahead, inner, behind string
		most                 int
	}{
		{"(", "1", ")", 198},
		{"- ", "1", "", 198},
		{"$", "1", "", 198},
		{"", "1", "+1", 198},
		{"", "1", " 1", 198},
		{"a=", "1", "", 198},
		{"1^", "1", "", 198},
		{"f(", "", ")", 199},
		{"f(", "1", ")", 198},
		{"{", "", "}", 199},
		{"{", "a", "}", 197},
	} {
		if l, ok := Parse(wrapped(c.ahead, c.most, c.inner, c.behind)); !ok || len(l) != 1 || depth(l[0]) != 200 {
			t.Errorf("%d times %q is no program of 200 nodes", c.most, c.ahead+c.behind)
		}
		for _, count := range []int{c.most + 1, c.most + 2, c.most + 3, 300, 1000} {
			s := wrapped(c.ahead, count, c.inner, c.behind)
			checkNone(t, s, s+"\n{}", "{}\n"+s)
		}
	}
	// Trees that stand beside one another aren't deep.
	wide := strings.Repeat(wrapped("(", 100, "1", ")")+"\n", 40)
	if l, ok := Parse(wide); !ok || len(l) != 40 {
		t.Errorf("many items are %d, %v", len(l), ok)
	}
	wide = "{" + strings.Repeat("a;", 9000) + "}"
	if l, ok := Parse(wide); !ok || len(l[0].Kids[1].Kids) != 9000 {
		t.Errorf("many statements are %d items, %v", len(l), ok)
	}
}
