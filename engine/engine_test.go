package engine

import (
	"strings"
	"testing"

	"tedder/api"
	"tedder/syntax"
)

// usual gives limits that no program here comes to without meaning to.
func usual() api.Limits { return api.Limits{Ticks: 100, Depth: 10, Length: 100} }

// made gives a run of a program.
func made(t *testing.T, s string, lim api.Limits) *Engine {
	t.Helper()
	items, ok := syntax.Parse(s)
	e, good := New(items, lim)
	if !ok || !good || e == nil {
		t.Fatalf("%q is no program", s)
	}
	return e
}

// played does a program with lines up to its end, and tells what comes of it: what was printed, with | for each byte 10, each file, and, where it isn't empty, how that ended.
func played(t *testing.T, s string, lim api.Limits, lines ...string) string {
	t.Helper()
	e := made(t, s, lim)
	last := e.Begin()
	for _, line := range lines {
		if last.Kind == "" {
			last = e.Record(line)
		}
	}
	if end := e.End(); end.Kind != "" || last.Kind == "" {
		last = end
	}
	told := strings.ReplaceAll(e.Out(), "\n", "|")
	for _, f := range e.Files() {
		told += "[" + f.Name + ":" + strings.ReplaceAll(f.Data, "\n", "|") + "]"
	}
	if last.Kind != "" {
		told += "!" + last.Kind
	}
	return told
}

// sourced: a program, or part of one, and what comes of it.
type sourced struct {
	source, want string
}

// checkPrograms does programs with lines.
func checkPrograms(t *testing.T, l []sourced, lines ...string) {
	t.Helper()
	for _, p := range l {
		if got := played(t, p.source, usual(), lines...); got != p.want {
			t.Errorf("%s\n%s\nnot\n%s", p.source, got, p.want)
		}
	}
}

// checkBegins does statements at the beginning.
func checkBegins(t *testing.T, l []sourced) {
	t.Helper()
	for _, p := range l {
		checkPrograms(t, []sourced{{"BEGIN { " + p.source + " }", p.want}})
	}
}

// checkPrints prints expressions at the beginning.
func checkPrints(t *testing.T, l []sourced) {
	t.Helper()
	for _, p := range l {
		checkBegins(t, []sourced{{"print " + p.source, p.want + "|"}})
	}
}

// checkFaults does statements at the beginning, ahead of which "a" is printed, and which a fault ends: nothing behind them is done.
func checkFaults(t *testing.T, kind string, statements ...string) {
	t.Helper()
	for _, s := range statements {
		checkBegins(t, []sourced{{"print \"a\"; " + s + "; printf \"b\"; printf \"c\" > \"f\"", "a|!" + kind}})
	}
}

// P14.1: the examples of the chapter, and of the whole.
func TestExamples(t *testing.T) {
	checkPrograms(t, []sourced{{"{ s += $1 } END { print s }", "3|"}}, "1", "2")
	checkPrograms(t, []sourced{
		{"{ s += $1 } END { print s }", "6|"},
		{"{ print 1 / ($1 - 2) }", "-1|!div"},
		{"{ if ($1 > m) m = $1 } END { print m }", "3|"},
		{"NR == 2, /x/", "2|3|"},
	}, "1", "2", "3")
	checkPrograms(t, []sourced{{"{ n[$2]++ } END { for (k in n) print k, n[k] }", "a 1|b 2|"}}, "1 b", "2 a", "3 b")
	checkPrograms(t, []sourced{{"NR == 2, /x/", "b|c|x|"}, {"{ print > $1 }", "[a:a|][b:b|b|][c:c|][x:x|][y:y|]"}}, "a", "b", "c", "x", "y", "b")
	checkPrograms(t, []sourced{{"{ if ($1 > m) m = $1 } END { print m }", "x|"}}, "9", "10", "x", "8")
	checkPrograms(t, []sourced{
		{`BEGIN { print length("abc"), substr("hello", 2, 3) }`, "3 ell|"},
		{"BEGIN { for (;;) i++ }", "!tick"},
		{`BEGIN { exit 3 } END { print "end" }`, "end|!exit"},
		{"", ""},
	})
}

// P14.1: operands.
func TestOperands(t *testing.T) {
	checkPrints(t, []sourced{
		{"1, 007.5, .5e1, 1e3", "1 7.5 5 1000"},
		{`"", "a b", "\t"`, " a b \t"},
		{"(1), ((x)), (\"a\")", "1  a"},
		{"x, x + 0, x \"\", length(x)", " 0  0"},
		{"NR, FNR, NF, RSTART, RLENGTH", "0 0 0 0 -1"},
		{"\"<\" FILENAME \"|\" FS \"|\" OFS \"|\" CONVFMT \"|\" OFMT \">\"", "<| | |%.6g|%.6g>"},
		{"length(SUBSEP), index(\"\\034\", SUBSEP), index(\"\\n\", RS), index(\"\\n\", ORS)", "1 1 1 1"},
		{"$0, $1, $999, length($0)", "   0"},
		{`/^$/, /a/, //`, "1 0 1"},
		{"a[1], length(a[\"x\"])", " 0"},
		{"1 in a, (1, 2) in a", "0 0"},
	})
	checkPrograms(t, []sourced{
		{"{ print $0, $1, $(1 + 1), $NF, $3.9, $\"2x\", $(-0.9) }", "a 20  b a 20 b b 20 a 20  b|"},
		{"{ print /a/, /^2/, (/b$/), /a/ + /b/, !/c/ }", "1 0 1 2 1|"},
		{"{ print NF; print NF + 1, $NF }", "3|4 b|"},
		{"{ print $2 < 3, $2 == \"20\", $2 == 20.0, ($2 \"\") < 3, $1 < 3, $9 < 3 }", "0 1 1 1 0 1|"},
		{"{ print $$($2 / 20 + 1) }", "|"},
		{"{ print $1000; print $1001 }", "|!field"},
	}, "a 20  b")
	many := strings.Repeat("x ", 1200) + "y"
	checkPrograms(t, []sourced{
		{"{ print NF, $1001, $1201; print $1202 }", "1201 x y|!field"},
		{"{ $1201 = \"z\" } { print }", "!length"},
		{"{ $1202 = \"\" }", "!field"},
		{"{ NF = 1202 }", "!field"},
		{"{ NF = 1001 }", "!length"},
	}, many)
}

// P14.1: an element that is asked for is there then; one that is only looked for, or put at nothing, isn't.
func TestKeysMade(t *testing.T) {
	checkBegins(t, []sourced{
		{"a[1]; a[\"x\"] a[1, 2]; print 1 in a, \"x\" in a, (1, 2) in a, 2 in a; for (k in a) n++; print n", "1 1 1 0|3|"},
		{"x = (1 in a); delete a[1]; for (k in a) print k", ""},
		{"a[1]; delete a[1]; print 1 in a", "0|"},
		{"a[1]; x = a[1] + 0; for (k in a) print k, a[k] == 0, a[k] == \"\"", "1 1 1|"},
		{"a[1] = 2; a[2]++; --a[3]; a[4] += 1; for (k in a) print k, a[k]", "1 2|2 1|3 -1|4 1|"},
		{"sub(/x/, \"y\", a[1]); print 1 in a; sub(/$/, \"y\", a[1]); print a[1]", "0|y|"},
		{"a[a[1]] = a[2]; for (k in a) print \"<\" k \">\"", "<>|<1>|<2>|"},
		{"if (a[1] == 0) print 1 in a; if (2 in a) ; print 2 in a", "1|0|"},
		{"split(a[1], b); length(a[2]); !a[3]; print 1 in a, 2 in a, 3 in a", "1 1 1|"},
	})
}

// P14.1: keys are texts.
func TestKeys(t *testing.T) {
	checkBegins(t, []sourced{
		{"a[1] = \"n\"; a[\"01\"] = \"s\"; print a[\"1\"], a[01], a[1.0], a[\"01\"], a[2 - 1]", "n n n s n|"},
		{"a[0.1 + 0.2] = 1; for (k in a) print k; CONVFMT = \"%.1e\"; print 0.3 in a, a[0.3], (0.3 in a), length(a[.33])", "0.3|0  1 0|"},
		{"a[1, 2]; a[\"\", \"\"]; for (k in a) { gsub(SUBSEP, \"+\", k); print k }", "+|1+2|"},
		{"SUBSEP = \":\"; a[1, \"b\", .5]; for (k in a) print k; print (\"1:b\", .5) in a; SUBSEP = \"\"; print (1, \":b:0.5\") in a", "1:b:0.5|1|1|"},
		{"SUBSEP = 7; a[1, 2]; print \"172\" in a; SUBSEP = .25; a[1, 2]; print \"10.252\" in a", "1|1|"},
		{"a[x]; print \"\" in a", "1|"},
		{"a[i++, i++, i++]; print (0, 1, 2) in a", "1|"},
		{"a[\"b\"]; delete a[\"a\"]; delete a[\"b\", \"\"]; print \"b\" in a; delete a[\"b\"]; print \"b\" in a", "1|0|"},
	})
	checkPrograms(t, []sourced{{"{ a[$1]; a[$2] } END { for (k in a) print k }", "+1|1|1.0|1e0|"}}, "1 1.0", "1e0 +1")
}

// P14.1: operators.
func TestOperators(t *testing.T) {
	checkPrints(t, []sourced{
		{`-"3x", +" 4 ", - -2, -x, !x, !"", !"0", !0, !-1, !"a"`, "-3 4 2 0 1 1 0 1 0 0"},
		{"1 + 2 * 3, 7 - 10, 7 / 2, 7 % 3, -7 % 3, 7 % -3, 2 ^ 10, 2 ^ -1, 0 ^ 0", "7 -3 3.5 1 -1 1 1024 0.5 1"},
		{`"3a" + "4b", "x" * 2, 1e308 * 10, -1e308 * 10, 0 * -1`, "7 0 inf -inf 0"},
		{`1 2, "a" "b" 3, 1 " " -1, .5 .5, x y`, "12 ab3 1-1 0.50.5 "},
		{"1 < 2, 2 <= 1, 1 == 1, 1 != 1, (2 > 1), 1 >= 2", "1 0 1 0 1 0"},
		{"2 < 10, \"2\" < \"10\", 2 < \"10\", \"a\" < \"b\", \"a\" < \"B\", \"a\" < \"aa\"", "1 0 0 1 0 1"},
		{"x == 0, x == \"\", x < 1, x < \"a\", x == y", "1 1 1 1 1"},
		{`"ab" ~ /b/, "ab" ~ "^b", "ab" !~ /b/, "ab" !~ "^b", 10 ~ 1, 10 ~ "^0"`, "1 0 0 1 1 0"},
		{`"" ~ //, "" ~ "", "" ~ x, "a" ~ "$", "a" ~ (/a/), 1 ~ (/^$/)`, "1 1 1 1 0 1"},
		{`"a.b" ~ "a\\.b", "axb" ~ "a\\.b", "a\nb" ~ /a.b/`, "1 0 1"},
		{"1 ? 2 : 3, 0 ? 2 : 3, \"\" ? 2 : 3, \"0\" ? 2 : 3, x ? y : \"z\"", "2 3 3 2 z"},
		{"1 && 2, 1 && 0, x && 1, \"a\" && \"b\", 0 || 0, 0 || \"a\", 1 || x", "1 0 0 1 0 1 1"},
		{"log1 = 1e300 * 1e300 - 1e300 * 1e300, (log1 == 1), (log1 <= 1), (log1 < 1), !log1", "nan 1 1 0 0"},
	})
}

// P14.1: what isn't asked for isn't done.
func TestNotDone(t *testing.T) {
	checkBegins(t, []sourced{
		{"0 && i++; 1 && j++; 1 || k++; 0 || l++; print i, j, k, l", " 1  1|"},
		{"x = 1 ? i++ : j++; y = 0 ? k++ : l++; print i, j, k, l, x, y", "1   1 0 0|"},
		{"print 0 && 1 / 0, 1 || 1 % 0, 1 ? 2 : 0 ^ .5", "0 1 2|"},
		{"1 && 0 && i++; 0 || 1 || j++; print i j \"-\"", "-|"},
	})
}

// P14.1: texts of numbers.
func TestNumberTexts(t *testing.T) {
	checkBegins(t, []sourced{
		{"print 1e6, 0.1, 1 / 3, 100000 * 10, 1e18, 1e19, -0", "1000000 0.1 0.333333 1000000 1000000000000000000 1e+19 0|"},
		{"OFMT = \"%.2f\"; print 1 / 3, 1 / 3 \"\", 3, (1 / 3)", "0.33 0.333333 3 0.33|"},
		{"CONVFMT = \"%.2f\"; print 1 / 3, 1 / 3 \"\", 3 \"\", length(1 / 3), index(1 / 3, 3), toupper(1 / 3)", "0.333333 0.33 3 4 3 0.33|"},
		{"CONVFMT = \"%.1e\"; print .25 < \"2.6e-01\", .25 == \"2.5e-01\", substr(.25, 1, 3), .25 ~ /e/", "1 1 2.5 1|"},
		{"CONVFMT = \"%.1f\"; $2 = .25; print; print .25 > .55", " 0.2|[0.6:0.25|]"},
		{"CONVFMT = \"%.1f\"; OFS = .25; print 1, 2; ORS = .35; OFMT = \"%.3f\"; print 1, 2", "10.22|10.220.3"},
		{"OFMT = \"%.1f\"; OFS = .25; ORS = \"\\n\"; $3 = 1; print; print 1, .75", "0.250.251|10.250.8|"},
		{"OFMT = \"%d\"; print 1, \"a\", \"0.5\" }  { print .5", "1 a 0.5|"},
		{"CONVFMT = 5; print 1 \"\", \"a\" \"b\"; print .5", "1 ab|0.5|"},
		{"OFMT = 5; print 1, \"a\"; print .5 \"\"", "1 a|0.5|"},
		{"printf \"%s %s\\n\", 1 / 3, 2; printf 0.1 \"\\n\"; CONVFMT = \"%.2f\"; printf \"%s|\", 1 / 3; printf .125", "0.333333 2|0.1|0.33|0.12"},
		{"CONVFMT = \"%.2f\"; print \"x\" > 1 / 3", "[0.33:x|]"},
	})
	// A text from outside keeps its text, and a number that is made of it doesn't.
	checkPrograms(t, []sourced{{"{ print $1, $1 + 0, $1 \"\"; x = $1; a[$1] = x; print x, a[$1]; for (k in a) print k }", "1.50 1.5 1.50|1.50 1.50|1.50|"}}, "1.50")
}

// P14.1: operands are done from the left to the right.
func TestOrder(t *testing.T) {
	checkBegins(t, []sourced{
		{"i = 1; print i++, i++ + i, i, i-- i", "1 5 3 32|"},
		{"x = 1; print x (x = 2) x, (x = 3) + x, x", "122 6 3|"},
		{"i = 1; a[i++] = i; for (k in a) print k, a[k]", "1 2|"},
		{"i = 1; $(i++) = i; print; $i = $(--i); print", "2|2 2|"},
		{"i = 1; a[i] = a[i++] + i++; for (k in a) print k, a[k]", "1 2|"},
		{"x = 1; x += x++; print x; x -= (x = 5); print x; y = 2; print y ^ (y = 3), y", "3|0|8 3|"},
		{"a[1] = 1; a[1] += a[1] = 5; print a[1]", "10|"},
		{"i = 5; print substr(\"abcdef\", i = 2, i), index(s = \"xay\", s), s", "bc 1 xay|"},
		{"x = \"b\"; print x ~ (x = \"a\"), x < (x = \"b\"), x in a, (x = 1, x) in a", "0 1 0 0|"},
		{"s = \"aaa\"; print sub(s = \"a\", s = \"b\", s), s; t = \"c\"; print gsub(/b/, t = \"bb\", t), t", "0 b|2 bbbb|"},
		{"x = .25; y = x (CONVFMT = \"%.1f\"); print y; a[x, CONVFMT = \"%.3f\"]; print (\"0.250\", \"%.3f\") in a", "0.2%.1f|1|"},
		{"OFS = \"-\"; print 1, OFS = \"+\", 2; print 1, 2 > (OFS = \"f\"); print ORS = \"!\"", "1+++2|!![f:1f2|]"},
		{"$0 = \"a\"; print > ($0 = \"f\"); print length, $0 = \"xyz\", length", "1 xyz 3|[f:f|]"},
	})
}
