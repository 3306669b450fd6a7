package sem

import (
	"reflect"
	"strconv"
	"strings"
	"testing"

	"tedder/api"
)

// usual gives limits that no program here comes to without meaning to.
func usual() api.Limits { return api.Limits{Ticks: 100, Depth: 10, Length: 100} }

// told tells what a job came to: what was printed, with | for each byte 10, each file, and, where it isn't empty, the kind and the status.
func told(r api.Result) string {
	s := strings.ReplaceAll(r.Out, "\n", "|")
	for _, f := range r.Files {
		s += "[" + f.Name + ":" + strings.ReplaceAll(f.Data, "\n", "|") + "]"
	}
	if r.Kind != "" || r.Status != 0 {
		s += "!" + r.Kind + " " + strconv.Itoa(r.Status)
	}
	return s
}

// checkJob asks what a job comes to, as told tells it.
func checkJob(t *testing.T, j api.Job, want string) {
	t.Helper()
	if got := told(Run(j)); got != want {
		t.Errorf("%.200s\nsep %.60q, vars %.60q, args %.60q\n%.300s\nnot\n%.300s", j.Source, j.Sep, j.Vars, j.Args, got, want)
	}
}

// checkOnly asks that a job comes to a kind and a status, and to nothing else.
func checkOnly(t *testing.T, j api.Job, kind string, status int) {
	t.Helper()
	if r := Run(j); r.Out != "" || len(r.Files) != 0 || r.Kind != kind || r.Status != status {
		t.Errorf("%.200s\nsep %.60q, vars %.60q, args %.60q\n%v\nnot %s %d alone", j.Source, j.Sep, j.Vars, j.Args, r, kind, status)
	}
}

// files gives files of names and texts, one behind the other.
func files(l ...string) []api.File {
	var all []api.File
	for i := 0; i < len(l); i += 2 {
		all = append(all, api.File{Name: l[i], Data: l[i+1]})
	}
	return all
}

// over gives a job of a program, with files and operands.
func over(source string, files []api.File, args ...string) api.Job {
	return api.Job{Source: source, Args: args, Files: files, Lim: usual()}
}

// P16.1: the example of the chapter, and those of the whole.
func TestExamples(t *testing.T) {
	checkJob(t, api.Job{Source: "{ print x $1 }", Vars: []string{"x=>"}, Files: files("-", "a b"), Lim: usual()}, ">a|")
	for _, x := range []struct{ source, data, want string }{
		{"{ s += $1 } END { print s }", "1\n2\n3\n", "6|"},
		{"{ n[$2]++ } END { for (k in n) print k, n[k] }", "1 b\n2 a\n3 b\n", "a 1|b 2|"},
		{"NR == 2, /x/", "a\nb\nc\nx\nd\n", "b|c|x|"},
		{`BEGIN { print length("abc"), substr("hello", 2, 3) }`, "1\n", "3 ell|"},
		{"{ print 1 / ($1 - 2) }", "1\n2\n3\n", "-1|!div 2"},
		{"BEGIN { for (;;) i++ }", "1\n", "!tick 2"},
		{"{ if ($1 > m) m = $1 } END { print m }", "9\n10\n", "10|"},
		{"{ if ($1 > m) m = $1 } END { print m }", "9\n10\nx\n", "x|"},
		{"{ print > $1 }", "b 1\na 2\nb 3\n", "[b:b 1|b 3|][a:a 2|]"},
		{"$1 ~", "1\n", "!syntax 2"},
		{`BEGIN { exit 3 } END { print "end" }`, "1\n", "end|!exit 3"},
	} {
		checkJob(t, over(x.source, files("-", x.data)), x.want)
		checkJob(t, over(x.source, files("f", x.data), "f"), x.want)
	}
}

// P16.1, P0.1: what is no program with right names, expressions and limits leads to Kind syntax alone, whatever else the job has.
func TestSyntax(t *testing.T) {
	rest := files("-", "a\n", "f", "b\n")
	for _, source := range []string{
		"$1 ~", "{ print", "}", "x = ", "1 + b = c", "a & b", "\"a", "BEGIN", "BEGIN { next }", "BEGIN { getline }", "@", "\x00",
		"BEGIN { print 1 } }", strings.Repeat(" ", api.MaxSource+1), strings.Repeat("a\n", api.MaxTokens/2+1),
		"BEGIN { print 1; a[1] = a }", "BEGIN { print 1; f() }", "function f() { } function f() { } BEGIN { print 1 }", "function NR() { } BEGIN { print 1 }", "BEGIN { print 1; FS[1] }",
		"BEGIN { print 1 } /(/", "BEGIN { print 1 } /a{3,2}/ { }", "BEGIN { print 1; if (0) /[/ }", "function f() { /*/ } BEGIN { print 1; sub(/a(/, x) }", "BEGIN { print 1 } /(.{255}){8}/",
	} {
		checkOnly(t, over(source, rest), "syntax", 2)
		checkOnly(t, api.Job{Source: source, Sep: ",", Vars: []string{"1", "NF=1", "x=1"}, Args: []string{"no", "NF=1", "f"}, Files: rest, Lim: usual()}, "syntax", 2)
		checkOnly(t, api.Job{Source: source}, "syntax", 2)
	}
	checkJob(t, over(strings.Repeat(" ", api.MaxSource-1)+"1", rest), "a|")
	checkJob(t, over("/(.{255}){7}/ || 1", rest), "a|")
}

// P16.1: limits that aren't as told lead to Kind syntax, too.
func TestLimits(t *testing.T) {
	lim := func(ticks, depth, length int) api.Job {
		return api.Job{Source: "BEGIN { print 1 } END { print NR }", Vars: []string{"x=1"}, Files: files("-", "a\n"), Lim: api.Limits{Ticks: ticks, Depth: depth, Length: length}}
	}
	for _, n := range []int{0, -1, 1000001, 1 << 40, -1 << 62} {
		checkOnly(t, lim(n, 1, 1), "syntax", 2)
		checkOnly(t, lim(1, n, 1), "syntax", 2)
		checkOnly(t, lim(1, 1, n), "syntax", 2)
	}
	for _, n := range []int{1, 2, 999999, 1000000} {
		checkJob(t, lim(n, 1, 1), "1|1|")
		checkJob(t, lim(1, n, 1), "1|1|")
		checkJob(t, lim(1, 1, n), "1|1|")
	}
	for _, x := range []struct {
		source string
		lim    api.Limits
		want   string
	}{
		{"BEGIN { while (i < 4) i++; print i }", api.Limits{Ticks: 3, Depth: 9, Length: 9}, "!tick 2"},
		{"BEGIN { while (i < 4) i++; print i }", api.Limits{Ticks: 4, Depth: 9, Length: 9}, "4|"},
		{"function f(n) { return n ? f(n - 1) 1 : \"\" } BEGIN { print f(3) }", api.Limits{Ticks: 9, Depth: 3, Length: 9}, "!depth 2"},
		{"function f(n) { return n ? f(n - 1) 1 : \"\" } BEGIN { print f(3) }", api.Limits{Ticks: 9, Depth: 4, Length: 9}, "111|"},
		{"BEGIN { print \"ab\" \"cd\" }", api.Limits{Ticks: 9, Depth: 9, Length: 3}, "!length 2"},
		{"BEGIN { print \"ab\" \"cd\" }", api.Limits{Ticks: 9, Depth: 9, Length: 4}, "abcd|"},
	} {
		checkJob(t, api.Job{Source: x.source, Lim: x.lim}, x.want)
	}
}

// P16.1: Sep is assigned to FS, ahead of Vars and BEGIN, as it stands; an empty one isn't.
func TestSep(t *testing.T) {
	const shown = "BEGIN { print \"<\" FS \">\" } { print $2 }"
	for _, x := range []struct{ sep, want string }{
		{"", "< >|b,c|"},
		{" ", "< >|b,c|"},
		{",", "<,>|c d|"},
		{"b", "<b>|,c d|"},
		{"[ ,]", "<[ ,]>|b|"},
		{"x=1", "<x=1>||"},
		{"\n", "<|>||"},
		{`\,`, `<\,>|c d|`},
		{`\t`, `<\t>||`},
		{`\\`, `<\\>||`},
		{"((", "<((>|!ere 2"},
		{"\\", "<\\>||"},
	} {
		j := over(shown, files("-", "a b,c d\n"))
		j.Sep = x.sep
		checkJob(t, j, x.want)
		j.Vars = []string{"y=1", "FS=;"}
		checkJob(t, j, "<;>||")
		j.Vars = []string{"FS="}
		checkJob(t, j, "<>| |")
		j.Vars, j.Args = nil, []string{"FS=d"}
		checkJob(t, j, strings.SplitAfter(x.want, ">|")[0]+"|")
	}
	j := over("BEGIN { print FS == 1, FS == 1.0, FS < 9 }", nil)
	j.Sep = "1.0"
	// It looks like a number, and comes from outside.
	checkJob(t, j, "1 1 1|")
	j = over("BEGIN { FS = \":\" } { print $1 }", files("-", "a:b,c\n"))
	j.Sep = ","
	checkJob(t, j, "a|")
}

// P16.1: each of Vars must be an assignment whose text can be assigned; else nothing is done.
func TestVars(t *testing.T) {
	const source = "function f(p) { return p } BEGIN { print x; print y; print z > \"o\"; a[1] = f(NR) } END { print NR, $0 }"
	with := func(vars ...string) api.Job {
		j := over(source, files("-", "l\n"))
		j.Vars = vars
		return j
	}
	checkJob(t, with("x=1"), "1||1 l|[o:|]")
	checkJob(t, with("x=1", "x=2", "y=a b"), "2|a b|1 l|[o:|]")
	checkJob(t, with("x=y=z", `y=\t\"\101`, "z=\n\\"), "y=z|\t\"A|1 l|[o:|\\|]")
	checkJob(t, with("new=1", "p=2", "_9=3", "OFS=-", "ORS=;", "OFMT=%d"), ";;1-l;[o:;]")
	checkJob(t, with("NR=5"), "||6 l|[o:|]")
	checkJob(t, with("x=", "y==", "z= "), "|=|1 l|[o: |]")
	for _, bad := range []string{
		"", "x", "=", "=1", "1=1", "1x=1", " x=1", "x =1", "x.y=1", "x[1]=1", "$0=1", "-v", "x+=1",
		"NF=1", "NF=", "a=1", "f=1", "f=",
		"in=1", "BEGIN=1", "function=1", "print=1", "length=1", "sub=", "getline=1", "ENVIRON=1", "ARGC=1", "func=1", "rand=1",
		strings.Repeat("n", api.MaxSource+1) + "=1",
	} {
		checkOnly(t, with(bad), "assign", 2)
		checkOnly(t, with("x=1", bad, "y=2"), "assign", 2)
		j := with("x=1", bad)
		j.Sep, j.Args = ",", []string{"no", "x=1"}
		checkOnly(t, j, "assign", 2)
		j.Source = ""
		if bad != "a=1" && bad != "f=1" && bad != "f=" {
			checkOnly(t, j, "assign", 2)
		}
	}
	// What a program doesn't have is no array of it, and no function.
	j := over("BEGIN { print 1 }", nil)
	j.Vars = []string{"a=1", "f=1"}
	checkJob(t, j, "1|")
}

// P16.1: texts that Vars and operands assign come from outside: those that look like numbers are both.
func TestOutside(t *testing.T) {
	const shown = "print x == 10, x < 9, x \"\""
	for text, want := range map[string]string{"10": "1 0 10|", " 10.0 ": "1 0  10.0 |", "1e1": "1 0 1e1|", `1\060`: "1 0 10|", "10x": "0 1 10x|", `"10"`: "0 1 \"10\"|"} {
		j := over("BEGIN { "+shown+" }", nil)
		j.Vars = []string{"x=" + text}
		checkJob(t, j, want)
		checkJob(t, over("END { "+shown+" }", nil, "x="+text), want)
	}
}

// P16.1, R5: what a job comes to has nothing beside what the chapter tells.
func TestEmptyJobs(t *testing.T) {
	for _, source := range []string{"", "\n;\n", "# nothing", "function f() { }", "BEGIN { }", "{ }", "END { }", "0", "0, 0"} {
		checkOnly(t, over(source, nil), "", 0)
		checkOnly(t, over(source, files("-", "a\n")), "", 0)
	}
	checkOnly(t, api.Job{}, "syntax", 2)
	r := Run(over("BEGIN { print 1; print 2 > \"o\"; print 3 > \"p\"; print 4 >> \"o\"; exit 7 }", nil))
	if want := (api.Result{Out: "1\n", Files: files("o", "2\n4\n", "p", "3\n"), Status: 7, Kind: "exit"}); !reflect.DeepEqual(r, want) {
		t.Errorf("%v, not %v", r, want)
	}
}
