package names

import (
	"strings"
	"testing"

	"tedder/api"
	"tedder/syntax"
)

// parsed gives a program's items.
func parsed(t *testing.T, s string) []api.Node {
	t.Helper()
	l, ok := syntax.Parse(s)
	if !ok {
		t.Fatalf("%q is no program", s)
	}
	return l
}

// shown gives names as a text: functions | scalars | arrays | parameters.
func shown(n api.Names) string {
	var lists []string
	for _, l := range [][]string{n.Funcs, n.Scalars, n.Arrays, n.Params} {
		lists = append(lists, strings.Join(l, " "))
	}
	return strings.Join(lists, "|")
}

// program: one, and its names as shown gives them.
type program struct {
	source, want string
}

// checkNames holds Resolve against names that are right.
func checkNames(t *testing.T, l []program) {
	t.Helper()
	for _, p := range l {
		if n, ok := Resolve(parsed(t, p.source)); !ok || shown(n) != p.want {
			t.Errorf("%q: %s, %v, not %s", p.source, shown(n), ok, p.want)
		}
	}
}

// checkWrong asks for the zero value and false.
func checkWrong(t *testing.T, sources ...string) {
	t.Helper()
	for _, s := range sources {
		if n, ok := Resolve(parsed(t, s)); ok || n.Funcs != nil || n.Scalars != nil || n.Arrays != nil || n.Params != nil {
			t.Errorf("%q: %s, %v, not the zero value and false", s, shown(n), ok)
		}
	}
}

// P7.1: the chapter's example, and a program without names.
func TestExamples(t *testing.T) {
	checkNames(t, []program{
		{"", "|||"},
		{"BEGIN { print 1, \"a\", /b/ }", "|||"},
		{"function f(a) { a[1] = x }; BEGIN { f(t) }", "f|x|t|f.a"},
	})
}

// P7.1: what tells that a name is an array's.
func TestArrays(t *testing.T) {
	checkNames(t, []program{
		{"{ a[1] }", "||a|"},
		{"{ a[1, 2] = 3 }", "||a|"},
		{"{ a[1]++ }", "||a|"},
		{"a[1], b[2]", "||a b|"},
		{"{ 1 in a }", "||a|"},
		{"{ (1, 2) in a }", "||a|"},
		{"{ 1 in a in b }", "||a b|"},
		{"{ delete a[1] }", "||a|"},
		{"{ for (k in a) ; }", "|k|a|"},
		{"{ split(s, a) }", "|s|a|"},
		{"{ split(s, a, p) }", "|p s|a|"},
		{"{ sub(/x/, 1, a[1]); gsub(/x/, 1, b[1]) }", "||a b|"},
		{"{ a[b[c[1]]] }", "||a b c|"},
	})
}

// P7.1: what tells that a name is a scalar's: a var node anywhere else.
func TestScalars(t *testing.T) {
	checkNames(t, []program{
		{"a", "|a||"},
		{"a, b { c }", "|a b c||"},
		{"BEGIN { a } END { b }", "|a b||"},
		{"{ a = 1; b += 2; c++; --d }", "|a b c d||"},
		{"{ -a; b c; d + e; f < g; h ~ i; j && k; l ? m : n; (o); $p }", "|a b c d e f g h i j k l m n o p||"},
		{"{ x[a]; b in x; delete x[c]; (d, e) in x }", "|a b c d e|x|"},
		{"{ for (a in x) b }", "|a b|x|"},
		{"{ for (a; b; c) d; while (e) f; do g; while (h); if (i) j; else k; exit l }", "|a b c d e f g h i j k l||"},
		{"{ print a, b > c; printf d, e >> f }", "|a b c d e f||"},
		{"{ length(a); substr(b, c, d); index(e, f); match(g, h); split(i, x, j); sub(k, l, m); gsub(n, o); sprintf(p, q); tolower(r); toupper(s); int(u) }", "|a b c d e f g h i j k l m n o p q r s u|x|"},
		{"function f() { return a }", "f|a||"},
	})
}

// checkClash tells, for each statement about a name, that it can't stand beside one by which the name is of the other kind.
func checkClash(t *testing.T, statements []string, other string) {
	t.Helper()
	const functions = "function put(p) { p[1] }\nfunction tell(p) { p++ }\n"
	for _, s := range statements {
		checkWrong(t, functions+"{ "+s+"; "+other+" }", functions+"{ "+other+" } END { "+s+" }", functions+"function f(a) { "+other+"; "+s+" }")
		if _, ok := Resolve(parsed(t, functions+"{ "+strings.ReplaceAll(s, "a", "b")+"; "+other+" }")); !ok {
			t.Errorf("%s isn't right beside %s of another name", s, other)
		}
	}
}

// P7.1: no variable is both: each of the two kinds of statements is held against one of the other kind.
func TestBoth(t *testing.T) {
	arrays := []string{"a[1]", "1 in a", "delete a[1]", "for (k in a) ;", "split(s, a)", "(1, 2) in a", "put(a)", "a[1] = 2", "x[a[1]]", "put(x) a[1]"}
	scalars := []string{"a", "a = 1", "(a)", "x[a]", "a in x", "for (a in x) ;", "split(a, x)", "split(s, x, a)", "print a", "print 1 > a", "exit a", "length(a)", "substr(a, 1)", "sub(/x/, 1, a)", "put(x) a", "tell(a)", "tell(a + 1)", "tell((a))", "-a", "$a", "1 a", "1 ? a : 2"}
	checkClash(t, scalars, "a[2]")
	checkClash(t, scalars, "put(a)")
	checkClash(t, arrays, "a = 2")
	checkClash(t, arrays, "tell(a)")
	checkWrong(t, "{ a[a] }", "{ a in a }", "{ delete a[a] }", "{ split(a, a) }", "{ for (a in a) ; }", "{ split(s, a, a) }")
	checkNames(t, []program{{"{ a[1]; 1 in a; delete a[2]; for (k in a) split(k, a) }", "|k|a|"}})
}

// P7.1: what stands alone as an argument is of the parameter's kind, however many calls are between, and the other way.
func TestCalls(t *testing.T) {
	checkNames(t, []program{
		{"function f(a) { }\n{ f(x) }", "f|x||"},
		{"function f(a) { }\nBEGIN { f() }", "f|||"},
		{"function f(a) { a[1] }\nBEGIN { f() }", "f|||f.a"},
		{"function f(a) { a }\n{ f(x) }", "f|x||"},
		{"function f(a) { }\n{ f(x); x[1] }", "f||x|f.a"},
		{"{ f(x); x[1] }\nfunction f(a) { }", "f||x|f.a"},
		{"function f(a, b) { a[1]; b }\n{ f(x, y) }", "f|y|x|f.a"},
		{"function f(a, b) { a; b[1] }\n{ f(x, y) }", "f|x|y|f.b"},
		{"function f(a, b) { a[1]; b }\n{ f(x) }", "f||x|f.a"},
		{"function f(a) { g(a) }\nfunction g(b) { h(b) }\nfunction h(c) { c[1] }\n{ f(x) }", "f g h||x|f.a g.b h.c"},
		{"function h(c) { c[1] }\nfunction g(b) { h(b) }\nfunction f(a) { g(a) }\n{ f(x) }", "f g h||x|f.a g.b h.c"},
		{"function f(a) { g(a) }\nfunction g(b) { h(b) }\nfunction h(c) { }\n{ f(x); x[1] }", "f g h||x|f.a g.b h.c"},
		{"function f(a) { }\n{ f(x); f(y); f(z) } END { y[1] }", "f||x y z|f.a"},
		{"function f(a, b) { f(b, a) }\n{ f(x, y); x[1] }", "f||x y|f.a f.b"},
		{"function f(a, b) { f(b) }\n{ f(x, y); x[1] }", "f||x y|f.a f.b"},
		{"function f(a, b) { f(b) }\n{ f(x, y); y[1] }", "f||x y|f.a f.b"},
		{"function f(a) { return f(a) }\n{ x = f(y) }", "f|x y||"},
		{"function f(a) { }\n{ f(f(x)) }", "f|x||"},
		{"function f(a) { }\n{ length(f(x)); x[1] }", "f||x|f.a"},
		{"function f(a) { }\n{ f(1); f(x) }", "f|x||"},
		{"function f(a) { }\n{ f(x[y]); f(z) }", "f|y z|x|"},
	})
	const functions = "function put(a) { a[1] }\nfunction f(a) { }\nfunction g(a) { f(a) }\nfunction h(a) { g(a) }\n"
	for _, s := range []string{"put(1)", "put(\"s\")", "put(/r/)", "put($1)", "put(x[1])", "put((x))", "put(x + 1)", "put(x = 1)", "put(x++)", "put(-x)", "put(f(x))", "put(length)", "put(x in y)", "put(NR)", "put(1 ? x : y)",
		"put(x); x = 1", "put(x); f(x); f(1)", "h(x); h(NF); x[1]", "f(x); x[1]; h(1)", "f(x); h(y); x[1]; y = 1", "f(x); f(y); f(z); x[1]; z = 1", "h(1) put(x) f(x)", "f(1, 2)", "put(x, y)"} {
		checkWrong(t, functions+"{ "+s+" }", "{ "+s+" }\n"+functions)
	}
	checkWrong(t, "function f(a, b) { f(b, a) }\n{ f(x, y); x[1]; y = 1 }", "function f(a, b) { f(b); a[1]; b = 1 }", "function f(a) { a[1]; f(1) }", "function f(a) { a[1]; f(f(a)) }")
}

// P7.1: a parameter is another variable than one of its name elsewhere.
func TestOwners(t *testing.T) {
	checkNames(t, []program{
		{"function f(a) { a[1] }\nfunction g(a) { a = 1 }\n{ a }", "f g|a||f.a"},
		{"function f(a) { a = 1 }\nfunction g(a) { a[1] }\n{ a[1] }", "f g||a|g.a"},
		{"function f(a) { a[1] }\nfunction g() { a = 1 }", "f g|a||f.a"},
		{"function g() { a = 1 }\nfunction f(a) { a[1] }\nfunction h() { a }", "f g h|a||f.a"},
		{"{ a = 1 }\nfunction f(a) { a[1] }\nEND { a }", "f|a||f.a"},
		{"function f(a) { for (a in b) ; }\n{ a[1] }", "f||a b|"},
		{"function f(a) { for (k in a) ; }\n{ a }", "f|a k||f.a"},
		{"function f(a) { split(a, b); g(a) }\nfunction g(b) { b }\n{ a[1] }", "f g||a b|"},
		{"function f(a) { g(a) }\nfunction g(b) { b[1] }\n{ a }", "f g|a||f.a g.b"},
		{"function f(a, b) { delete b[a] }\n{ delete a[b] }", "f|b|a|f.b"},
		{"function f(a) { }\n{ a[1]; f(1) }", "f||a|"},
	})
	checkWrong(t, "function f(a) { b[1] }\nfunction g(a) { b = 1 }", "function f(a) { b[1] }\nfunction g(b) { }\n{ b }")
}

// P7.1: the special names, and names like them.
func TestSpecial(t *testing.T) {
	for _, s := range strings.Fields("NF NR FNR FS OFS ORS RS FILENAME SUBSEP CONVFMT OFMT RSTART RLENGTH") {
		checkNames(t, []program{{"{ " + s + " }", "|" + s + "||"}, {"{ for (" + s + " in x) ; }", "|" + s + "|x|"},
			{"function f(a) { }\n{ f(" + s + ") }", "f|" + s + "||"}, {"function f() { f(); x[" + s + "] = 1 }", "f|" + s + "|x|"}})
		checkWrong(t, "{ "+s+"[1] }", "{ 1 in "+s+" }", "{ delete "+s+"[1] }", "{ for (k in "+s+") ; }", "{ split(1, "+s+") }", "function f(a) { a[1] }\n{ f("+s+") }",
			"function f(a) { }\n{ f("+s+"); f(x); x[1] }", "function "+s+"(a) { }", "function "+s+"() { }\n{ "+s+"() }", "function f("+s+") { }", "function f(a, "+s+") { }", "function f("+s+", a) { }")
	}
	for _, s := range strings.Fields("nf NFS F N NRS FRS SF nr Nf NF_ _NF NF1 FNR1 FIELD SEP FMT START LENGTH RSTARTS filename ERRNO BEGINS") {
		checkNames(t, []program{{"{ " + s + "[1] }", "||" + s + "|"}, {"function f(a, " + s + ") { " + s + "[1] }", "f|||f." + s}, {"function " + s + "() { }", s + "|||"}})
	}
}

// P7.1: what functions and parameters may not be called.
func TestFunctions(t *testing.T) {
	checkNames(t, []program{
		{"function f() { }", "f|||"},
		{"function f() { }\nfunction g() { f() }\nfunction h() { g() }", "f g h|||"},
		{"function f(a, b, c) { }\nfunction g(c, b, a) { }", "f g|||"},
		{"function f(a) { }\nfunction fa(f1) { }", "f fa|||"},
		{"function f(a, aa) { }", "f|||"},
	})
	checkWrong(t,
		"function f() { }\nfunction f() { }", "function f(a) { }\nfunction g() { }\nfunction f(b) { }",
		"function f(a, a) { }", "function f(a, b, a) { }", "function f(a, b, b) { }",
		"function f(f) { }", "function f(a, f) { }", "function f(g) { }\nfunction g() { }", "function g() { }\nfunction f(g) { }", "function f(a, g) { }\nfunction g(b) { }",
		"function f() { }\n{ f = 1 }", "{ f = 1 }\nfunction f() { }", "function f() { f[1] }", "function f() { }\nfunction g() { for (f in x) ; }", "function f() { }\n{ for (k in f) ; }",
		"function f() { }\n{ 1 in f }", "function f() { }\n{ delete f[1] }", "function f() { }\n{ split(1, f) }", "function f(a) { }\n{ f(f) }", "function f() { }\nfunction g(a) { }\n{ g(f) }",
		"{ f() }", "{ f(1) }", "function f() { g() }", "function f(a) { a() }", "function f(a) { }\nfunction g() { a() }", "{ x = f() }",
		"function f() { }\n{ f(1) }", "function f(a) { }\n{ f(1, 2) }", "function f(a) { }\n{ f(x, y) }", "function f(a) { f(a, a) }", "function f(a, b) { }\n{ f(1, 2, 3) }",
		"function f() { }\n{ x = 1; y[f(1)] }",
	)
}

// P7.1: each list is rising, each name in it once.
func TestOrder(t *testing.T) {
	checkNames(t, []program{
		{"{ b; a; c; a; B; _; a1; aa; a_; NR; b }", "|B NR _ a a1 a_ aa b c||"},
		{"{ b[1]; a[1]; c[1]; a[1]; B[1]; _[1]; a1[1]; aa[1]; a_[1]; b[2] }", "||B _ a a1 a_ aa b c|"},
		{"function g() { }\nfunction f1() { }\nfunction f() { }\nfunction F() { }\nfunction _() { }", "F _ f f1 g|||"},
		{"function g(b, a) { a[1]; b[1]; b[2] }\nfunction f1(c, b) { c[1]; b[1] }\nfunction f(z, A) { z[1]; A[1] }\nfunction F(a_, a1) { a_[a1[1]] }", "F f f1 g|||F.a1 F.a_ f.A f.z f1.b f1.c g.a g.b"},
	})
}
