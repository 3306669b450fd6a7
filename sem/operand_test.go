package sem

import (
	"strings"
	"testing"

	"tedder/api"
)

// some gives files that the jobs here read.
func some() []api.File {
	return files("f", "1 a\n2 b\n", "g", "3,c", "e", "", "-", "in\n", "f", "no\n", "-", "no\n", "", "no\n", "x=1", "no\n", "in=1", "no\n")
}

// where tells which records are read.
const where = "{ print FILENAME \":\" FNR \":\" NR \":\" $0 }"

// P16.1: operands that are names are files, which are read in order.
func TestNamed(t *testing.T) {
	for args, want := range map[string]string{
		"f":       "f:1:1:1 a|f:2:2:2 b|",
		"g":       "g:1:1:3,c|",
		"f g":     "f:1:1:1 a|f:2:2:2 b|g:1:3:3,c|",
		"g f":     "g:1:1:3,c|f:1:2:1 a|f:2:3:2 b|",
		"g e g":   "g:1:1:3,c|g:1:2:3,c|",
		"e":       "",
		"-":       "-:1:1:in|",
		"- g -":   "-:1:1:in|g:1:2:3,c|-:1:3:in|",
		"f  g ":   "f:1:1:1 a|f:2:2:2 b|g:1:3:3,c|",
		" g":      "g:1:1:3,c|",
		"no":      "!missing 2",
		"g no f":  "g:1:1:3,c|!missing 2",
		"F":       "!missing 2",
		"./f":     "!missing 2",
		"--":      "!missing 2",
		"1=1":     "!missing 2",
		"f:g":     "!missing 2",
		"no NF=1": "!missing 2",
	} {
		checkJob(t, over(where, some(), strings.Split(args, " ")...), want)
		checkJob(t, over("BEGIN { } "+where, some(), strings.Split(" "+args+" ", " ")...), want)
	}
	odd := []api.File{{Name: " ", Data: "a"}, {Name: "1=1", Data: "b"}, {Name: "\x00\xff", Data: "c"}, {Name: "a b=c", Data: "d"}, {Name: "=", Data: "e"}, {Name: "-v", Data: "f"}, {Name: `\146`, Data: "g"}}
	checkJob(t, over("{ print }", odd, " ", "1=1", "\x00\xff", "a b=c", "=", "-v", `\146`), "a|b|c|d|e|f|g|")
	checkJob(t, over("{ print }", files("f", "a\n"), `\146`), "!missing 2")
}

// P16.1: of files of one name the first one counts, whatever stands in it.
func TestFirstOfName(t *testing.T) {
	checkJob(t, over(where, files("f", "", "f", "a\n"), "f"), "")
	checkJob(t, over(where, files("g", "b\n", "f", "c\n", "g", "a\n", "f", "a\n", "f", "a\n"), "f", "g"), "f:1:1:c|g:1:2:b|")
	checkJob(t, over(where, files("f", "a\n", "-", "", "-", "b\n")), "")
	checkJob(t, over(where, files("-", "c\n", "f", "a\n", "-", "b\n")), ":1:1:c|")
	// A file that the program writes is none that it reads.
	checkJob(t, over("BEGIN { print 9 > \"f\" } { print; print 8 > \"g\" }", files("f", "a\n"), "f", "g"), "a|[f:9|][g:8|]!missing 2")
}

// P16.1: an assignment is assigned where it stands among the operands.
func TestAssignments(t *testing.T) {
	const source = "BEGIN { printf \"%s-\", x } { printf \"%s%s \", x, $1 } END { print x }"
	for args, want := range map[string]string{
		"x=1":           "-1in 1|",
		"x=1 x=2":       "-2in 2|",
		"x=1 f":         "-11 12 1|",
		"x=1 f x=2 g":   "-11 12 23,c 2|",
		"f x=1":         "-1 2 1|",
		"f x=1 g x=2":   "-1 2 13,c 2|",
		"x=1 f x=2 x=":  "-11 12 |",
		"x=f f":         "-f1 f2 f|",
		"y=1 f":         "-1 2 |",
		"f  x=1  g ":    "-1 2 13,c 1|",
		`x=\101 g`:      "-A3,c A|",
		"x==y=\\\" g":   "-=y=\"3,c =y=\"|",
		"x=-  e":        "--|",
		"RSTART=4 x=5":  "-5in 5|",
		"FS=, g":        "-3 |",
		"g FS=, g":      "-3,c 3 |",
		"FS=a f FS=, g": "-1  2 b 3 |",
	} {
		checkJob(t, over(source, some(), strings.Split(args, " ")...), want)
		checkJob(t, over(source, some(), strings.Split(" "+args, " ")...), want)
	}
	// What is assigned is what it stands for, with bytes 10 and all.
	checkJob(t, over("END { print x }", nil, "x=a\nb\\\n\"c\\"), "a|b\\|\"c\\|")
	// BEGIN is done ahead of them.
	j := over("BEGIN { print x; x = 2 } END { print x }", nil, "x=3")
	j.Vars = []string{"x=1"}
	checkJob(t, j, "1|3|")
}

// P16.1: NR, FNR, FILENAME and the like can be assigned between files, and go on from there.
func TestAssignedCounts(t *testing.T) {
	checkJob(t, over(where, some(), "g", "NR=10", "FNR=20", "FILENAME=n", "g"), "g:1:1:3,c|g:1:11:3,c|")
	checkJob(t, over(where, some(), "NR=10", "FNR=20", "FILENAME=n"), ":1:11:in|")
	checkJob(t, over(where+" END { print FILENAME, FNR, NR }", some(), "g", "NR=10", "FNR=20", "FILENAME=n"), "g:1:1:3,c|n 20 10|")
	checkJob(t, over("BEGIN { NR = 3; FNR = 5 } "+where, some(), "f"), "f:1:4:1 a|f:2:5:2 b|")
	checkJob(t, over("{ FILENAME = \"n\"; FNR = 7; print FILENAME, FNR, NR++ }", some(), "f", "g"), "n 7 1|n 7 3|n 7 5|")
}

// P16.1: an assignment that can't be done is the fault assign: what was printed stands, END isn't done.
func TestAssignFault(t *testing.T) {
	const source = "function h() { } BEGIN { print \"b\"; a[1] } { print; print > \"o\" } END { print \"e\" }"
	for _, bad := range []string{"NF=1", "NF=", "a=1", "h=1", "in=1", "END=1", "print=1", "length=1", "split=", "getline=1", "ARGV=1", "system=1", strings.Repeat("n", api.MaxSource+1) + "="} {
		checkJob(t, over(source, some(), bad), "b|!assign 2")
		checkJob(t, over(source, some(), bad, "g"), "b|!assign 2")
		checkJob(t, over(source, some(), "g", bad, "f"), "b|3,c|[o:3,c|]!assign 2")
		checkJob(t, over(source, some(), "g", "x=1", "", bad, "no"), "b|3,c|[o:3,c|]!assign 2")
		checkJob(t, over(source, some(), "no", bad), "b|!missing 2")
	}
}

// P16.1: without an operand that is a file's name the file - is read by the empty name, if there is one.
func TestUnnamed(t *testing.T) {
	for _, args := range [][]string{nil, {}, {""}, {"", ""}, {"y=1"}, {"", "y=1", "z=2", ""}} {
		checkJob(t, over(where, some(), args...), ":1:1:in|")
		checkJob(t, over("BEGIN { FILENAME = \"n\"; FNR = NR = 6 } "+where+" END { print \"<\" FILENAME \">\" }", some(), args...), ":1:7:in|<>|")
		checkJob(t, over(where+" END { print \"e\" }", files("f", "a\n"), args...), "e|")
		checkJob(t, over(where+" END { print \"e\" }", nil, args...), "e|")
		checkJob(t, over(where, files("", "a\n"), args...), "")
	}
	const begun = "BEGIN { FILENAME = \"n\"; FNR = 5 } END { print FILENAME, FNR, NR }"
	// A file without records begins, too; one that there isn't doesn't.
	checkJob(t, over(begun, files("-", "")), " 0 0|")
	checkJob(t, over(begun, files("f", "")), "n 5 0|")
	checkJob(t, over(begun, files("e", ""), "e"), "e 0 0|")
	checkJob(t, over("{ print x $0 }", some(), "x=1", "", "x=2"), "2in|")
	// A file's name among the operands, wherever it stands, is one, also of a file without records.
	for _, args := range [][]string{{"e"}, {"x=1", "e"}, {"e", "x=1"}, {"", "e", ""}} {
		checkJob(t, over("{ print }", some(), args...), "")
	}
	checkJob(t, over("{ print }", some(), "no"), "!missing 2")
}

// P16.1: a program with neither rules nor ranges nor END items asks nothing of the operands.
func TestNothingRead(t *testing.T) {
	for _, args := range [][]string{nil, {"no"}, {"NF=1"}, {"f"}, {"x=1"}, {"a=1", "no"}} {
		for source, want := range map[string]string{
			"":                  "",
			"function f() { }":  "",
			"BEGIN { print 1 }": "1|",
			"BEGIN { print 1 } BEGIN { a[1]; print 2; exit }": "1|2|!exit 0",
			"function f() { return 4 } BEGIN { exit f() }":    "!exit 4",
			"BEGIN { print 1; x = 1 / 0 }":                    "1|!div 2",
		} {
			checkJob(t, over(source, some(), args...), want)
		}
	}
	// Any of the three asks for them.
	for source, want := range map[string]string{"1": "3,c|", "{ print 1 }": "1|", "0": "", "1, 0": "3,c|", "0, 0 { }": "", "END { print NR }": "1|", "END { }": "", "BEGIN { } 1; END { }": "3,c|"} {
		checkJob(t, over(source, some(), "g"), want)
		checkJob(t, over(source, some(), "no"), "!missing 2")
		checkJob(t, over(source, some(), "NF=1"), "!assign 2")
	}
}

// P16.1: records are parted by RS's text as it is when their file begins.
func TestRS(t *testing.T) {
	l := files("f", "a;b\nc;d\n\ne", "g", "1;2\n\n3\n", "-", "\n\na;\nb\n\n\nc\n", "l", "\n\n")
	const shown = "{ print NR \":\" NF \":\" $0 }"
	for rs, want := range map[string]string{
		`\n`: "1:1:a;b|2:1:c;d|3:0:|4:1:e|5:1:1;2|6:0:|7:1:3|",
		";":  "1:1:a|2:2:b|c|3:2:d||e|4:1:1|5:2:2||3||",
		";x": "1:1:a|2:2:b|c|3:2:d||e|4:1:1|5:2:2||3||",
		"":   "1:2:a;b|c;d|2:1:e|3:1:1;2|4:1:3|",
		"x":  "1:3:a;b|c;d||e|2:2:1;2||3||",
		"1":  "1:3:a;b|c;d||e|2:0:|3:2:;2||3||",
	} {
		j := over(shown, l, "f", "g")
		j.Vars = []string{"RS=" + rs}
		checkJob(t, j, want)
		checkJob(t, over(shown, l, "RS="+rs, "f", "g"), want)
		checkJob(t, over("BEGIN { RS = \""+rs+"\" } "+shown, l, "f", "g"), want)
	}
	checkJob(t, over(shown, l, "f", "RS=;", "g"), "1:1:a;b|2:1:c;d|3:0:|4:1:e|5:1:1|6:2:2||3||")
	checkJob(t, over(shown, l, "RS="), "1:2:a;|b|2:1:c|")
	checkJob(t, over("END { print NR }", l, "RS=", "l"), "0|")
	checkJob(t, over("END { print NR }", l, "l"), "2|")
	// What a record's rules put there holds from the next file on.
	checkJob(t, over("{ RS = \";\" } "+shown, l, "f", "g"), "1:1:a;b|2:1:c;d|3:0:|4:1:e|5:1:1|6:2:2||3||")
	checkJob(t, over("{ RS = RS == \"\\n\" ? \"\" : \"\\n\" } "+shown, l, "g", "g"), "1:1:1;2|2:0:|3:1:3|4:1:1;2|5:1:3|")
	checkJob(t, over("{ print; RS = \"\" }", l, "RS=;", "g", "g"), "1|2||3||1;2|3|")
	// A number's text parts, too.
	checkJob(t, over("BEGIN { RS = 2 + 1 } { print }", l, "g"), "1;2|||||")
}
