package engine

import (
	"testing"

	"tedder/api"
)

// P14.1: what is printed, and where.
func TestPrint(t *testing.T) {
	checkPrograms(t, []sourced{
		{"{ print; print $2; print $1, $2; print $1 $2; print ($1, $2); print \"\" }", "a  1|1|a 1|a1|a 1||"},
		{"{ OFS = \"-\"; ORS = \";\"; print; print 1, 2; print 1 2 }", "a  1;1-2;12;"},
		{"{ ORS = x; OFS = 7; print 1, 2; ORS = 8; print 1 }", "17218"},
		{"{ printf \"%s %5.1f|\", \"a\", 2.25; printf \"x\"; printf(\"%s%%\", $2); printf x; printf \"\" }", "a   2.2|x1%"},
		{"{ printf \"%s %s\", 1, 2, 3 / 0 }", "!div"},
		{"{ printf \"%s\" \" %d\\n\", \"a\", \"7x\" }", "a 7|"},
		{"{ print 1 > 2; print 3 > \"2\"; print 4 >> 2.0; print 5 > \"02\"; print 6 >> \"a b\" }", "[2:1|3|4|][02:5|][a b:6|]"},
		{"{ print $1 > $2; print \"x\" >> \"a\"; print > $1; printf \"y\" > \"1\" }", "[1:a|y][a:x|a  1|]"},
		{"{ printf \"\" > \"f\"; print > \"g\"; printf \"%s\", 1 >> \"f\" }", "[f:1][g:a  1|]"},
		{"{ printf \"\" > \"f\" }", "[f:]"},
		{"{ print(1, 2) > \"f\"; print(1)(2) > \"f\"; print (1 > 2), (2 > 1) > \"f\" }", "[f:1 2|12|0 1|]"},
		{"{ print \"a\\0\\377\" > \"\\0\" }", "[\x00:a\x00\xff|]"},
	}, "a  1")
	checkFaults(t, "file", "print > \"\"", "print \"x\" > x", "print > $1", "printf \"x\" >> \"\"", "print 1, 2 > $0", "CONVFMT = \"%d\"; print .5 > \"\"")
	checkFaults(t, "div", "print 1 / 0 > \"\"", "print \"b\" > 1 / 0", "print \"b\", 1 % 0", "printf \"%y\", 1 / 0", "printf \"%y\" > 1 / 0", "OFMT = \"x\"; print .5 > 1 / 0")
}

// P14.1: loops.
func TestLoops(t *testing.T) {
	checkBegins(t, []sourced{
		{"while (i < 3) { i++; if (i == 2) continue; print i }; print i", "1|3|3|"},
		{"while (i++ < 5) { if (i == 3) break; print i }; print i", "1|2|3|"},
		{"while (0) print 1; while (x) ; while (\"\") { }", ""},
		{"do print i++; while (i < 3); do { if (++j == 2) continue; if (j == 4) break; print j } while (j < 9)", "0|1|2|1|3|"},
		{"do print 1; while (0)", "1|"},
		{"for (i = 0; i < 3; i++) print i; print i", "0|1|2|3|"},
		{"for (;;) if (++j > 2) break; print j; for (i = 5; i; ) i--; print i; for (; i < 2; i++) continue; print i", "3|0|2|"},
		{"for (print 1; x < 2; print x) x++", "1|1|2|"},
		{"for (i = 0; i < 2; i++) for (j = 0; j < 3; j++) { if (j == 1) continue; if (i == 1) break; print i, j }", "0 0|0 2|"},
		{"while (i++ < 2) { do { if (j++ == 1) break } while (1); print i, j }", "1 2|!tick"},
		{"while (i++ < 2) { j = 0; do { if (j++ == i) break } while (1); print i, j }", "1 2|2 3|"},
		{"if (1) print 1; if (0) print 2; else print 3; if (x) ; else if (\"0\") print 4; else print 5", "1|3|4|"},
		{"for (delete a[1]; !(1 in a) && n < 3; a[n]) n++; print n", "1|"},
	})
}

// P14.1: for with in goes through the keys that are there at its beginning.
func TestForIn(t *testing.T) {
	checkBegins(t, []sourced{
		{"a[2]; a[10]; a[\"x\"]; a[\"\"]; a[\"B\"]; for (k in a) print k \".\"", ".|10.|2.|B.|x.|"},
		{"a[1]; a[2]; a[3]; for (k in a) { print k; delete a[k + 1]; a[k + 5]; delete a[k] }; for (k in a) print k", "1|2|3|6|7|8|"},
		{"a[9]; a[10]; for (k in a) print k, k < 9.5, k == 10.0, length(k)", "10 0 1 2|9 1 0 1|"},
		{"for (k in a) print \"no\"; print k \".\"; a[1]; k = 7; for (k in a) ; print k; delete a[1]; k = 7; for (k in a) ; print k", ".|1|7|"},
		{"a[1]; a[2]; a[3]; for (k in a) { if (k == 1) continue; if (k == 3) break; print k }; print k", "2|3|"},
		{"a[1]; a[2]; for (i in a) for (j in a) print i, j; for (i in a) for (j in a) { if (j == 2) break; print i j }", "1 1|1 2|2 1|2 2|11|21|"},
		{"a[2]; a[0]; for (NF in a) print NF, length($0); print NF; a[\"2x\"]; for (OFS in a) print 1, 2", "0 0|2 1|2|102|122|12x2|"},
		{"a[1] = 5; for (k in a) { k = 3; a[k] = k; print a[1], k }; for (k in a) print k, a[k]", "5 3|1 5|3 3|"},
		{"a[1]; for (k in a) for (k in a) k = \"x\"; print k", "x|"},
	})
}

// P14.1: a tick is used by each time that a loop's statement is done, and by each call.
func TestTicks(t *testing.T) {
	lim := api.Limits{Ticks: 3, Depth: 9, Length: 99}
	for _, p := range []sourced{
		{"BEGIN { while (i < 3) i++; print i }", "3|"},
		{"BEGIN { while (i < 4) { print i; i++ } }", "|1|2|!tick"},
		{"BEGIN { do print ++i; while (i < 3); print \"end\" }", "1|2|3|end|"},
		{"BEGIN { do print ++i; while (i < 4); print \"end\" }", "1|2|3|!tick"},
		{"BEGIN { do print ++i; while (again()) } function again() { return 1 }", "1|2|!tick"},
		{"BEGIN { for (i = 0; i < 3; i++) ; print i; while (0) ; for (; 0; ) ; for (k in a) ; do print 1; while (0) }", "3|!tick"},
		{"BEGIN { for (i = 0; i < 4; print i++) ; print \"end\" }", "0|1|2|!tick"},
		{"BEGIN { a[1]; a[2]; a[3]; for (k in a) ; print k } BEGIN { a[4]; for (k in a) print k }", "3|!tick"},
		{"BEGIN { a[1]; a[2]; a[3]; a[4]; for (k in a) print k } END { print k }", "1|2|3|!tick"},
		{"function f() { n++ } BEGIN { f(); f(); f(); print n; f() }", "3|!tick"},
		{"function f(x) { return x + 1 } BEGIN { print f(f(f(1))); print f(1) }", "4|!tick"},
		{"function f() { } BEGIN { while (i++ < 2) f(); print i; f() }", "!tick"},
		{"function f() { while (i++ < 2) ; } BEGIN { f(); print i; f(); print 4 }", "3|!tick"},
		{"BEGIN { while (i++ < 3) ; } BEGIN { print 1; while (1) ; }", "1|!tick"},
		{"BEGIN { while (i++ < 3) ; } { while (j++ < 3) ; print j; j = 0 } END { while (k++ < 3) ; print k }", "4|4|4|"},
		{"{ while (i++ < 2) ; } { while (j++ < 2) ; print 1 }", "!tick"},
		{"function f() { n++; return 1 } f(), f() { print n }", "2|4|"},
		{"function f() { return ++n } f() f() f() { print f() } END { print n }", "!tick"},
	} {
		if got := played(t, p.source, lim, "a", "b"); got != p.want {
			t.Errorf("%s\n%s\nnot\n%s", p.source, got, p.want)
		}
	}
}

// P14.1: functions, what is handed in, and what they answer.
func TestFunctions(t *testing.T) {
	checkPrograms(t, []sourced{
		{"function f(n) { return n <= 1 ? 1 : n * f(n - 1) } BEGIN { print f(5); print f(11) }", "120|!depth"},
		{"function f(a, i) { a[i] = i; i = 5 } BEGIN { i = 1; f(b, i); f(b, 2); for (k in b) print k, i }", "1 1|2 1|"},
		{"function f(a, b) { return a \"-\" b } BEGIN { print f(1, 2), f(1), f(), f(x, y) }", "1-2 1- - -|"},
		{"function f(a) { a = 1; x = 2 } BEGIN { a = 5; print f(a) \".\", a, x, length(f(a)) }", ". 5 2 0|"},
		{"function f() { return } function g() { return x } function h() { } BEGIN { print f() == 0, f() == \"\", g() == 0, h() == \"\"; y = f(); print y == 0, y == \"\" }", "1 1 1 1|1 1|"},
		{"function f(n, a) { a[n] = n; if (n) f(n - 1); for (k in a) s = s k; return s } BEGIN { print f(3) }", "0123|"},
		{"function f(n, a) { a[n]; if (n) f(n - 1, a); return n } BEGIN { f(3); f(2, b); for (k in b) print k }", "0|1|2|"},
		{"function f(a) { g(a); return a[1] } function g(b) { b[1]++; h(b) } function h(c) { c[1] *= 5 } BEGIN { print f(x), f(x), x[1] }", "5 30 30|"},
		{"function f(a, b) { a[1] = 1; b[1] = 2; return a[1] } BEGIN { print f(x, x), x[1] }", "2 2|"},
		{"function f(a, n) { if (n) return f(n - 1 ? a : a, n - 1); return a } BEGIN { print f(\"x\", 3) }", "x|"},
		{"function f(x) { x++; return x } BEGIN { x = 1; print f(x) + x, f(f(x)), f(x = 5), x }", "3 3 6 5|"},
		{"function f(k) { for (k in a) if (k == 2) return k; return \"no\" } BEGIN { a[1]; a[2]; a[3]; print f() + f(), k \".\"; delete a[2]; print 1 + f() }", "4 .|1|"},
		{"function f(n) { while (1) for (;;) do { if (n++ > 3) return n } while (1) } BEGIN { print f(), f(2) }", "5 5|"},
		{"function f(a, b) { return b } BEGIN { print f(i++, i++), i; print f(x = 2, x), f(x, x = 3) }", "1 2|2 3|"},
		{"function f(s) { sub(/a/, \"b\", s); $2 = s; return NF } { print f($1), $0, f($0) }", "2 ax bx 2|2 y y 2|"},
		{"function f(p) { p += 1; p++; ++p; return p p-- p } BEGIN { print f(1), f(\"2x\") }", "443 554|"},
		{"function f(a) { delete a[1]; return 1 in a } BEGIN { a[1]; b[1]; print f(b), 1 in b, 1 in a }", "0 0 1|"},
		{"function f(a) { return split(\"x y\", a) } BEGIN { print f(), f(b), b[2] }", "2 2 y|"},
		{"function f(n) { return g(n) + 1 } function g(n) { return n ? f(n - 1) : 0 } BEGIN { print f(4); print f(5) }", "5|!depth"},
		{"function f() { print \"f\"; exit 4 } BEGIN { print 1 + f() } END { print \"end\" }", "f|end|!exit"},
		{"function f(NFX, a) { a = NFX; return a a } BEGIN { print f(2) f(3) f(), a \".\" }", "2233 .|"},
	}, "ax", "y")
	for _, p := range []sourced{
		{"function f() { } BEGIN { f(); f(); print 1 }", "1|"},
		{"function f(x) { return x } BEGIN { print f(f(f(1))) }", "1|"},
		{"function f(x) { return g(x) } function g(x) { return x } BEGIN { print g(1); print f(1) }", "1|!depth"},
		{"function f(x) { if (x) f(x - 1); print x } BEGIN { f(0); f(1) }", "0|!depth"},
		{"function f(x) { return x } f($1) { print f(1), f(2) }", "1 2|"},
	} {
		if got := played(t, p.source, api.Limits{Ticks: 9, Depth: 1, Length: 9}, "a"); got != p.want {
			t.Errorf("%s\n%s\nnot\n%s", p.source, got, p.want)
		}
	}
	// The tick of a call is asked for first.
	if got := played(t, "function f() { f() } BEGIN { f() }", api.Limits{Ticks: 1, Depth: 1, Length: 9}); got != "!tick" {
		t.Error(got)
	}
}

// P14.1: what ends a record's phase, or the run.
func TestNextAndExit(t *testing.T) {
	checkPrograms(t, []sourced{
		{"{ print 1; next; print 2 } { print 3 }", "1|1|1|"},
		{"{ if ($1 == \"b\") next; print } { print NR } END { print \"end\" }", "a|1|c|3|end|"},
		{"{ a[1]; for (k in a) for (;;) { print $0; next } } { print \"no\" }", "a|b|c|"},
		{"NR == 2, 0 { next } { print } END { print NR }", "a|3|"},
		{"{ print; exit; print 2 } { print 3 } END { print \"end\" }", "a|end|!exit"},
		{"BEGIN { print 1; exit; print 2 } BEGIN { print 3 } { print 4 } END { print \"end\"; exit 2; print 5 } END { print 6 }", "1|end|!exit"},
		{"function f() { exit } f() { print 1 } { print 2 } END { print \"end\" }", "end|!exit"},
		{"{ for (k in a) ; exit 1 / 0 } END { print \"end\" }", "!div"},
		{"END { print 1; exit } END { print 2 }", "1|!exit"},
	}, "a", "b", "c")
}
