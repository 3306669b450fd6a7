package syntax

import "testing"

// P6.1: statements, and the ends between them.
func TestStatements(t *testing.T) {
	checkStatements(t, []source{
		{"", ""},
		{";", ""},
		{";;\n;", ""},
		{"a", "expr(var:a)"},
		{"a = 1", "expr(assign:=(var:a num:1))"},
		{"a > b", "expr(bin:>(var:a var:b))"},
		{"a;b\nc", "expr(var:a) expr(var:b) expr(var:c)"},
		{"a;;\n;b\n\n", "expr(var:a) expr(var:b)"},
		{"a # b\nc", "expr(var:a) expr(var:c)"},
		{"{}", "block"},
		{"{a}{b}c", "block(expr(var:a)) block(expr(var:b)) expr(var:c)"},
		{"{a};;{b}", "block(expr(var:a)) block(expr(var:b))"},
		{"{{{}}}", "block(block(block))"},
		{"{;}", "block"},
		{"next", "next"},
		{"next; next", "next next"},
		{"exit", "exit"},
		{"exit; a", "exit expr(var:a)"},
		{"exit a b", "exit(bin:cat(var:a var:b))"},
		{"exit -1", "exit(unary:-(num:1))"},
		{"exit (a)\nb", "exit(group(var:a)) expr(var:b)"},
		{"exit a = 1", "exit(assign:=(var:a num:1))"},
		{"exit a > b", "exit(bin:>(var:a var:b))"},
		{"delete a[1]", "delete:a(num:1)"},
		{"delete a [b, c,\nd]", "delete:a(var:b var:c var:d)"},
		{"delete a[1]; b", "delete:a(num:1) expr(var:b)"},
	})
	checkTrees(t, []source{
		{"function f() { return }", "func:f(params block(return))"},
		{"function f() { return; return }", "func:f(params block(return return))"},
		{"function f() { return a = 1\n return (a)\n return -a }", "func:f(params block(return(assign:=(var:a num:1)) return(group(var:a)) return(unary:-(var:a))))"},
		{"BEGIN { exit 1 } END { exit }", "BEGIN(block(exit(num:1))) END(block(exit))"},
		{"function f() { exit f() }", "func:f(params block(exit(call:f)))"},
	})
	checkNoStatements(t, "a b; }", "{", "}", "a {}", "a {b}", "next {}", "next a", "next next", "exit exit", "exit, a", "exit a, b", "exit ]", "exit )", "exit else", "exit;)", "a, b", "a; , b", "delete", "delete a", "delete a[]", "delete a[1", "delete (a[1])", "delete $1", "delete 1", "delete a[1][2]", "delete a[1], b[2]", "delete a[1] b", "delete a(1)", "delete (a)", "delete a b[1]", "delete length[1]", "delete\na[1]", "delete a\n[1]", "delete a[(1, 2)]", "delete f(a)", "else", "else a", "in", "function", "function f() {}", "BEGIN {}", "END", "getline", "do", "if", "for", "while", ")", "]", "a )", "(", "a; b c d }")
	checkNone(t, "{ a b; c", "{ a ", "{ {a }", "{ a } }", "{ next", "{ exit", "{ if (a) {", "function f() { return", "function f() { return, a }", "function f() { return a, b }", "function f() { return a b; c d } e }")
}

// P6.1: if, and the else that belongs to the nearest one.
func TestChoices(t *testing.T) {
	checkStatements(t, []source{
		{"if (a) b", "if(var:a expr(var:b))"},
		{"if(a)\n\nb", "if(var:a expr(var:b))"},
		{"if (a) b; else c", "if(var:a expr(var:b) expr(var:c))"},
		{"if (a) b\nelse c", "if(var:a expr(var:b) expr(var:c))"},
		{"if (a) b ;\n; \n else\n\n c", "if(var:a expr(var:b) expr(var:c))"},
		{"if (a) b\n\n;c", "if(var:a expr(var:b)) expr(var:c)"},
		{"if (a) {b} else {c}", "if(var:a block(expr(var:b)) block(expr(var:c)))"},
		{"if (a) {b}\n;else c; d", "if(var:a block(expr(var:b)) expr(var:c)) expr(var:d)"},
		{"if (a) {b} c", "if(var:a block(expr(var:b))) expr(var:c)"},
		{"if (a) ;", "if(var:a none)"},
		{"if (a) ; else b", "if(var:a none expr(var:b))"},
		{"if (a) ;;; else ;", "if(var:a none none)"},
		{"if (a)\n; b", "if(var:a none) expr(var:b)"},
		{"if (a) b; else ; c", "if(var:a expr(var:b) none) expr(var:c)"},
		{"if (a) if (b) c; else d", "if(var:a if(var:b expr(var:c) expr(var:d)))"},
		{"if (a) if (b) c; else d; else e", "if(var:a if(var:b expr(var:c) expr(var:d)) expr(var:e))"},
		{"if (a) {if (b) c} else d", "if(var:a block(if(var:b expr(var:c))) expr(var:d))"},
		{"if (a) b; else if (c) d; else if (e) f; else g", "if(var:a expr(var:b) if(var:c expr(var:d) if(var:e expr(var:f) expr(var:g))))"},
		{"if (a) while (b) if (c) d; else e", "if(var:a while(var:b if(var:c expr(var:d) expr(var:e))))"},
		{"if (a) while (b) c; else d", "if(var:a while(var:b expr(var:c)) expr(var:d))"},
		{"if (a) for (;;) c\nelse d", "if(var:a for(none none none expr(var:c)) expr(var:d))"},
		{"if (a) do b; while (c); else d", "if(var:a do(expr(var:b) var:c) expr(var:d))"},
		{"if (a) print b > c; else d", "if(var:a print:>(var:b var:c) expr(var:d))"},
		{"if (a) print; else d", "if(var:a print expr(var:d))"},
		{"if (a = b) c", "if(assign:=(var:a var:b) expr(var:c))"},
		{"if (a > b) c", "if(bin:>(var:a var:b) expr(var:c))"},
		{"if ((a, b) in c) d", "if(in:c(var:a var:b) expr(var:d))"},
		{"if (k in a) (b)", "if(in:a(var:k) expr(group(var:b)))"},
		{"if (a) next; b", "if(var:a next) expr(var:b)"},
	})
	checkNoStatements(t, "if (a) b else c", "if (a) b} else c", "if a b", "if (a b", "if () b", "if (a, b) c", "if (a\n) b", "if (\na) b", "if\n(a) b", "if (a)", "if (a) b; else", "if (a) else b", "if (a); else b; else c", "if (a) b; c; else d", "if (a) {b} c; else d", "if (a) {b} else c else d", "if (a) b c; d e; else f", "if (a) print b else c", "if (a) do b; while (c) else d", "if (a;b) c", "if (a) if (b) c else d", "else b", "{a} else b", "if (a) b,c", "if (print a) b", "if (a) b; else c d }")
	checkNone(t, "{ if (a) b } else c", "{ if (a) b; } else c", "{ if (a) b; else }", "if (a) b")
}

// P6.1: while, do and both kinds of for.
func TestLoops(t *testing.T) {
	checkStatements(t, []source{
		{"while (a) b", "while(var:a expr(var:b))"},
		{"while (a)\n\n{b;c}", "while(var:a block(expr(var:b) expr(var:c)))"},
		{"while (a) ;", "while(var:a none)"},
		{"while (a);;b", "while(var:a none) expr(var:b)"},
		{"while (a) while (b) c\nd", "while(var:a while(var:b expr(var:c))) expr(var:d)"},
		{"while (a) {b} c", "while(var:a block(expr(var:b))) expr(var:c)"},
		{"do a; while (b)", "do(expr(var:a) var:b)"},
		{"do\n\na\n;\nwhile (b); c", "do(expr(var:a) var:b) expr(var:c)"},
		{"do {a} while (b)", "do(block(expr(var:a)) var:b)"},
		{"do {a}\n;while (b)\nc", "do(block(expr(var:a)) var:b) expr(var:c)"},
		{"do ; while (a)", "do(none var:a)"},
		{"do while (a) b; while (c)", "do(while(var:a expr(var:b)) var:c)"},
		{"do while (a); while (c)", "do(while(var:a none) var:c)"},
		{"do do a; while (b); while (c)", "do(do(expr(var:a) var:b) var:c)"},
		{"do if (a) b; else c; while (d)", "do(if(var:a expr(var:b) expr(var:c)) var:d)"},
		{"do print a > b; while (c > d)", "do(print:>(var:a var:b) bin:>(var:c var:d))"},
		{"for (;;) a", "for(none none none expr(var:a))"},
		{"for (;\n;\n\n)\n\na", "for(none none none expr(var:a))"},
		{"for (a;b;c) d", "for(expr(var:a) var:b expr(var:c) expr(var:d))"},
		{"for (a = 1;\na < 3;\na++)\n{ b }", "for(expr(assign:=(var:a num:1)) bin:<(var:a num:3) expr(post:++(var:a)) block(expr(var:b)))"},
		{"for (a;;) ;", "for(expr(var:a) none none none)"},
		{"for (;a;) ;b", "for(none var:a none none) expr(var:b)"},
		{"for (;;a) {} b", "for(none none expr(var:a) block) expr(var:b)"},
		{"for (print a > b; c > d; print > e f) g", "for(print:>(var:a var:b) bin:>(var:c var:d) print:>(bin:cat(var:e var:f)) expr(var:g))"},
		{"for (print; a; print) b", "for(print var:a print expr(var:b))"},
		{"for (print a, b; ; printf(a, b)) c", "for(print(var:a var:b) none printf(var:a var:b) expr(var:c))"},
		{"for (delete a[1]; b; delete c[2]) d", "for(delete:a(num:1) var:b delete:c(num:2) expr(var:d))"},
		{"for (next; ; exit) a", "for(next none exit expr(var:a))"},
		{"for (exit; ; exit a) b", "for(exit none exit(var:a) expr(var:b))"},
		{"for (a in b) c", "forin:a(var:b expr(var:c))"},
		{"for (a in b)\n\n;", "forin:a(var:b none)"},
		{"for (a in b) for (c in d) e; f", "forin:a(var:b forin:c(var:d expr(var:e))) expr(var:f)"},
		{"for (a in b;;) c", "for(expr(in:b(var:a)) none none expr(var:c))"},
		{"for (a in b; a in c; a in d) e", "for(expr(in:b(var:a)) in:c(var:a) expr(in:d(var:a)) expr(var:e))"},
		{"for ((a in b);;) c", "for(expr(group(in:b(var:a))) none none expr(var:c))"},
		{"for ((a, b) in c;;) d", "for(expr(in:c(var:a var:b)) none none expr(var:d))"},
		{"for (a in b in c;;) d", "for(expr(in:c(in:b(var:a))) none none expr(var:d))"},
		{"for (a b;;) c", "for(expr(bin:cat(var:a var:b)) none none expr(var:c))"},
	})
	checkNoStatements(t, "while a b", "while (a)", "while () a", "while (a, b) c", "while (a;) b", "while\n(a) b", "while (a) b c; d e }", "while (print) a",
		"do a while (b)", "do a; while (b) c", "do a; while b", "do a; while ()", "do a; while", "do a;", "do {a}", "do while (a)", "do a; b; while (c)", "do a; while (b) while (c) d", "do a; while\n(b)", "do {a} while (b) {c}", "do\nwhile (a)", "do a; until (b)",
		"for", "for a", "for ()", "for () a", "for (a) b", "for (;) a", "for (a;b) c", "for (;;;) a", "for (;;)", "for (a;b;c;d) e", "for (;;) a b; c d }", "for\n(;;) a", "for (\n;;) a", "for (a\n;;) b", "for (;a\n;) b", "for (;;a\n) b", "for (a,b;;) c", "for (;a,b;) c", "for (;print;) a", "for (;next;) a", "for (do a; while (b);;) c", "for (;;do a; while (b)) c", "for (do a;;) b", "for ({a};;) b", "for (;;{a}) b", "for (if (a) b;;) c", "for (;;while (a) b) c", "for (for (;;) a;;) b", "for (;;;a) b", "for ((a) in b) c", "for (a in (b)) c", "for (a[1] in b) c", "for ($1 in b) c", "for (1 in b) c", "for (a in b[1]) c", "for ((a in b)) c", "for ((a, b) in c) d", "for (a in b)", "for (a in b, c) d", "for (a, b in c) d", "for (a in\nb) c", "for (a\nin b) c", "for (a in b\n) c", "for (a in b in c) d", "for (a in b) c d; e f }", "for (in b) c", "for (a in) b", "for (f() in b) c", "for (length in b) c", "for (a in length) b", "for (printf;;) a", "for (;;print a,) b", "for (;;return) a", "for (else;;) a")
}

// P6.1: print and printf, their lists, and where they go.
func TestPrints(t *testing.T) {
	for _, c := range []source{
		{"p a", "p(var:a)"},
		{"p a, b,\n\nc", "p(var:a var:b var:c)"},
		{"p a b, c", "p(bin:cat(var:a var:b) var:c)"},
		{"p a = 1, b ? c : d", "p(assign:=(var:a num:1) cond(var:b var:c var:d))"},
		{"p(a)", "p(group(var:a))"},
		{"p (a)(b)", "p(bin:cat(group(var:a) group(var:b)))"},
		{"p (a) b, c", "p(bin:cat(group(var:a) var:b) var:c)"},
		{"p (a), (b)", "p(group(var:a) group(var:b))"},
		{"p ((a))", "p(group(group(var:a)))"},
		{"p(a, b)", "p(var:a var:b)"},
		{"p (a,\nb = 1, (c))", "p(var:a assign:=(var:b num:1) group(var:c))"},
		{"p (a, b) in c", "p(in:c(var:a var:b))"},
		{"p (a, b) in c, d", "p(in:c(var:a var:b) var:d)"},
		{"p (a, b) in c (d)", "p(bin:cat(in:c(var:a var:b) group(var:d)))"},
		{"p ((a, b) in c, d)", "p(in:c(var:a var:b) var:d)"},
		{"p (a) in b", "p(in:b(group(var:a)))"},
		{"p a in b", "p(in:b(var:a))"},
		{"p (a, b) in c in d", "p(in:d(in:c(var:a var:b)))"},
		{"p -1", "p(unary:-(num:1))"},
		{"p a -1", "p(bin:-(var:a num:1))"},
		{"p a ~ b || c", "p(bin:||(bin:~(var:a var:b) var:c))"},
		{"p a < b, c >= d", "p(bin:<(var:a var:b) bin:>=(var:c var:d))"},
		{"p a > b", "p:>(var:a var:b)"},
		{"p a >> b", "p:>>(var:a var:b)"},
		{"p a, b > c", "p:>(var:a var:b var:c)"},
		{"p (a, b) > c", "p:>(var:a var:b var:c)"},
		{"p (a, b) >> c d", "p:>>(var:a var:b bin:cat(var:c var:d))"},
		{"p (a) > b", "p:>(group(var:a) var:b)"},
		{"p a > b c", "p:>(var:a bin:cat(var:b var:c))"},
		{`p a > "f" b ".txt"`, "p:>(var:a bin:cat(bin:cat(str:f var:b) str:.txt))"},
		{"p a > b + 1 c * 2", "p:>(var:a bin:cat(bin:+(var:b num:1) bin:*(var:c num:2)))"},
		{"p a > -b", "p:>(var:a unary:-(var:b))"},
		{"p a > !b", "p:>(var:a unary:!(var:b))"},
		{"p a > $1", "p:>(var:a field(num:1))"},
		{"p a > b++", "p:>(var:a post:++(var:b))"},
		{"p a > (b)", "p:>(var:a group(var:b))"},
		{"p a > (b > c)", "p:>(var:a group(bin:>(var:b var:c)))"},
		{"p a > (b, c) in d", "p:>(var:a in:d(var:b var:c))"},
		{"p a = b > c", "p:>(assign:=(var:a var:b) var:c)"},
		{"p a in b > c", "p:>(in:b(var:a) var:c)"},
		{"p a ? b : c > d", "p:>(cond(var:a var:b var:c) var:d)"},
		{"p a && b > c", "p:>(bin:&&(var:a var:b) var:c)"},
		{"p a ~ b > c", "p:>(bin:~(var:a var:b) var:c)"},
		{"p (a > b)", "p(group(bin:>(var:a var:b)))"},
		{"p (a > b) > c", "p:>(group(bin:>(var:a var:b)) var:c)"},
		{"p (a > b, c > d) > e", "p:>(bin:>(var:a var:b) bin:>(var:c var:d) var:e)"},
		{"p (a > b)(c > d), (e > f) > g", "p:>(bin:cat(group(bin:>(var:a var:b)) group(bin:>(var:c var:d))) group(bin:>(var:e var:f)) var:g)"},
		{"p a[b > c] > d", "p:>(elem:a(bin:>(var:b var:c)) var:d)"},
		{"p f(a > b) > c", "p:>(call:f(bin:>(var:a var:b)) var:c)"},
		{"p int(a > b) > c", "p:>(built:int(bin:>(var:a var:b)) var:c)"},
		{"p (a > b, c) in d > e", "p:>(in:d(bin:>(var:a var:b) var:c) var:e)"},
		{"p a, (b > c) > d[e > f]", "p:>(var:a group(bin:>(var:b var:c)) elem:d(bin:>(var:e var:f)))"},
		{"p (a > (b > c))", "p(group(bin:>(var:a group(bin:>(var:b var:c)))))"},
	} {
		for _, name := range []string{"print", "printf"} {
			checkStatements(t, []source{{name + c.text[1:], name + c.tree[1:]}})
		}
	}
	checkStatements(t, []source{
		{"print", "print"},
		{"print; a > b", "print expr(bin:>(var:a var:b))"},
		{"print\nprint a", "print print(var:a)"},
		{"print > a", "print:>(var:a)"},
		{"print >> a b", "print:>>(bin:cat(var:a var:b))"},
		{"print > a; b > c", "print:>(var:a) expr(bin:>(var:b var:c))"},
		{"print a > b; print c > d", "print:>(var:a var:b) print:>(var:c var:d)"},
		{"print a > b; if (c > d) e > f", "print:>(var:a var:b) if(bin:>(var:c var:d) expr(bin:>(var:e var:f)))"},
	})
	for _, name := range []string{"print", "printf"} {
		for _, s := range []string{"a,", ", a", "a,, b", "a; , b", "()", "(a", "a)", "(a, b", "(a,)", "(, a)", "(a, b), c", "(a, b) c", "(a, b)(c)", "(a, b) + c", "(a, b) ~ c", "(a, b) == c", "(a, b) ? c : d", "(a, b) = c", "((a, b))", "a, (b, c)", "c, (a, b)", "a (b, c)", "(a, b) in", "(a, b) in 1", "a >", "a >>", "a > , b", "a > b, c", "a > b > c", "a > b >> c", "a >> b > c", "(a > b > c)", "a > b < c", "a > b == c", "a > b ~ c", "a > b in c", "a > b && c", "a > b ? c : d", "a > b = c", "a ? b > c : d", "a > b else", "a >> b)", "a > next", "a print b", "print", "a {b}", "a > b {c}", "a\n, b", "(\na, b)", "(a, b\n)", "(a\n, b)", "a >\nb", "a > (b, c)", "a >= ", "a >>> b", "a > > b", "a |b", "[a]", "a = > b"} {
			checkNoStatements(t, name+" "+s)
		}
	}
	checkNoStatements(t, "printf", "printf > a", "printf >> a", "print >", "print >>", "print > > a", "print > , a", "print , a", "x = print", "(print a)", "print else", "if (a) printf; else b", "for (;;printf > a) b")
}
