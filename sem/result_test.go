package sem

import (
	"slices"
	"testing"

	"tedder/api"
)

// P16.1: exit ends what goes on, END is done all the same, and the status is the last one that was told.
func TestExit(t *testing.T) {
	l := files("f", "1\n2\n", "g", "3\n")
	for _, x := range []struct{ source, want string }{
		{"BEGIN { exit 3 } { print } END { print NR }", "0|!exit 3"},
		{"BEGIN { exit } { print } END { print NR }", "0|!exit 0"},
		{"BEGIN { print \"b\"; exit 3; print \"no\" } BEGIN { print \"no\" } 1", "b|!exit 3"},
		{"BEGIN { exit 3 } END { print \"a\"; exit; print \"no\" } END { print \"no\" }", "a|!exit 3"},
		{"BEGIN { exit 3 } END { exit 4 }", "!exit 4"},
		{"BEGIN { exit 3 } END { exit 0 }", "!exit 0"},
		{"BEGIN { exit 3 } END { print; x = 1 / 0 }", "|!div 2"},
		{"{ print; exit 5 } END { print NR, $0 }", "1|1 1|!exit 5"},
		{"NR == 2 { exit 5 } { print } END { print NR, $0 }", "1|2 2|!exit 5"},
		{"{ exit } END { exit 6 }", "!exit 6"},
		{"{ exit 5 } END { exit }", "!exit 5"},
		{"{ exit 5 } END { print \"e\"; exit 1 / 0 }", "e|!div 2"},
		{"{ exit 5 }", "!exit 5"},
		{"exit_ = 0 { exit 5 } END { print NR; exit 7 }", "3|!exit 7"},
		{"{ print } END { exit 7 } END { print \"no\" }", "1|2|3|!exit 7"},
		{"{ print } END { exit }", "1|2|3|!exit 0"},
		{"END { exit -1 + 6 }", "!exit 5"},
		{"END { exit 262.9 }", "!exit 6"},
		{"END { exit -255 }", "!exit 1"},
		{"function f(n) { exit n } { f(9) } END { print NR }", "1|!exit 9"},
		{"{ next; exit 5 } END { print NR }", "3|"},
	} {
		checkJob(t, over(x.source, l, "f", "g"), x.want)
		checkJob(t, over(x.source, l, "", "f", "x=1", "g"), x.want)
	}
	// What stands behind an exit among the operands plays no part.
	for _, rest := range [][]string{{"no"}, {"NF=1"}, {"in=1"}, {"x=9"}, {"", "x=9", "g", "no"}} {
		checkJob(t, over("{ print x; exit 5 } END { print x }", l, append([]string{"x=1", "f"}, rest...)...), "1|1|!exit 5")
		checkJob(t, over("BEGIN { exit 5 } END { print \"<\" x \">\" NR }", l, rest...), "<>0|!exit 5")
	}
	checkJob(t, over("BEGIN { exit 5 } { print } END { print NR }", files("-", "a\n")), "0|!exit 5")
	checkJob(t, over("{ exit 5 } END { print NR }", files("-", "a\nb\n")), "1|!exit 5")
	if r := Run(over("END { exit 255 }", nil)); r.Kind != "exit" || r.Status != 255 {
		t.Errorf("%v", r)
	}
}

// faulty gives an expression for each fault of a program.
func faulty() map[string]string {
	return map[string]string{
		"div":    "1 / 0",
		"pow":    "(-8) ^ 0.5",
		"tick":   "f()",
		"depth":  "g(20)",
		"length": `sprintf("%200s", 1)`,
		"format": `sprintf("%d")`,
		"conv":   `(CONVFMT = "%d%d") .5`,
		"ere":    `"a" ~ "("`,
		"field":  "$1001",
	}
}

// P16.1, P0.3: at a fault what was printed and written stands, nothing is done behind it, END neither; the status is 2.
func TestFaults(t *testing.T) {
	const functions = "function f() { while (1) ; } function g(n) { return g(n - 1) } "
	l := files("f", "1\n2\n", "g", "3\n")
	for kind, expression := range faulty() {
		fault := "if (" + expression + ") ; print \"no\""
		for _, x := range []struct{ source, want string }{
			{"BEGIN { print \"b\"; print \"o\" > \"o\"; " + fault + " } BEGIN { print \"no\" }", "b|[o:o|]"},
			{"BEGIN { print \"b\"; " + fault + " } { print \"no\" } END { print \"no\" }", "b|"},
			{"NR == 2 { " + fault + " } { print; print NR > \"o\" } END { print \"no\" }", "1|[o:1|]"},
			{"{ print } $1 == 3 && (" + expression + ") { print \"no\" } END { print \"no\" }", "1|2|3|"},
			{"{ print } END { print \"e\"; print 1 > \"o\"; " + fault + " } END { print \"no\" }", "1|2|3|e|[o:1|]"},
			{"{ exit 5 } END { print \"e\"; " + fault + " }", "e|"},
			{"BEGIN { exit 5 } END { " + fault + " }", ""},
			{"END { " + fault + "; exit 5 }", ""},
		} {
			checkJob(t, over(functions+x.source, l, "f", "g"), x.want+"!"+kind+" 2")
		}
		checkJob(t, over(functions+"NR == 2 { "+fault+" } { print }", l, "f", "no", "NF=1"), "1|!"+kind+" 2")
		checkJob(t, over(functions+"BEGIN { "+fault+" } { print }", l, "no", "NF=1"), "!"+kind+" 2")
	}
	checkJob(t, over("{ print; print > \"\" } END { print \"no\" }", l, "f"), "1|!file 2")
}

// P16.1: a record that can't be parted is a fault, which is told of the first one.
func TestRecordFaults(t *testing.T) {
	l := files("f", "1\n2\n", "e", "", "-", "a\n")
	checkJob(t, over("{ print } END { print \"no\" }", l, "f", "FS=((", "f"), "1|2|!ere 2")
	checkJob(t, over("BEGIN { FS = \"((\" } { print } END { print NR }", l, "e"), "0|")
	checkJob(t, over("BEGIN { FS = \"((\" } END { print \"no\" }", l), "!ere 2")
	checkJob(t, over("{ print; FS = \"[\" \"a\" } END { print \"no\" }", l, "f"), "1|!ere 2")
	checkJob(t, over("BEGIN { RS = .5; CONVFMT = \"x\" } { print } END { print \"no\" }", l, "f"), "!conv 2")
	checkJob(t, over("BEGIN { FS = .5; CONVFMT = \"x\" } { print } END { print \"no\" }", l, "f"), "!conv 2")
	checkJob(t, over("{ print; RS = .5; CONVFMT = \"x\" } END { print \"no\" }", l, "f"), "1|!conv 2")
}

// P16.1: missing and assign are faults as those of the run are: what was printed stands, the status is 2, whatever an exit before told.
func TestOperandFaults(t *testing.T) {
	l := files("f", "1\n2\n")
	const source = "BEGIN { print \"b\" } { print; print > \"o\" } END { print \"no\"; exit 5 }"
	checkJob(t, over(source, l, "no"), "b|!missing 2")
	checkJob(t, over(source, l, "f", "no"), "b|1|2|[o:1|2|]!missing 2")
	checkJob(t, over(source, l, "f", "no", "f", "NF=1"), "b|1|2|[o:1|2|]!missing 2")
	checkJob(t, over(source, l, "f", "NF=1", "f", "no"), "b|1|2|[o:1|2|]!assign 2")
	r := Run(over(source, l, "f", "no"))
	if want := files("o", "1\n2\n"); r.Out != "b\n1\n2\n" || !slices.Equal(r.Files, want) || r.Kind != "missing" || r.Status != 2 {
		t.Errorf("%v", r)
	}
}

// P16.1: each record has its phase, with all its ticks.
func TestTicksOfPhases(t *testing.T) {
	j := over("BEGIN { while (i++ < 5) ; } { for (i = 0; i < 5; i++) n++ } END { while (i-- > 0) n++; print n }", files("-", "a\nb\nc\n"))
	for ticks, want := range map[int]string{5: "20|", 4: "!tick 2"} {
		j.Lim.Ticks = ticks
		checkJob(t, j, want)
	}
	j.Lim = api.Limits{Ticks: 1, Depth: 1, Length: 3}
	j.Source = "function f() { return NR \"\" } { print f() $0 } END { print f() \"end\" }"
	checkJob(t, j, "1a|2b|3c|!length 2")
}
