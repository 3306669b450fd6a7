package engine

import (
	"math"
	"slices"
	"strings"
	"testing"

	"tedder/api"
	"tedder/syntax"
)

// val gives a Val of the kinds none, num and str.
func val(x any) api.Val {
	switch x := x.(type) {
	case float64:
		return api.Val{Kind: "num", Num: x}
	case string:
		return api.Val{Kind: "str", Str: x}
	}
	return api.Val{Kind: "none"}
}

// both gives a Val of the kind both.
func both(s string, x float64) api.Val { return api.Val{Kind: "both", Num: x, Str: s} }

// checkGet asks for scalars.
func checkGet(t *testing.T, e *Engine, want map[string]api.Val) {
	t.Helper()
	for name, v := range want {
		if got := e.Get(name); got != v {
			t.Errorf("%s is %v, not %v", name, got, v)
		}
	}
}

// checkEnd asks how a phase ended.
func checkEnd(t *testing.T, got api.End, kind string, status int) {
	t.Helper()
	if got != (api.End{Kind: kind, Status: status}) {
		t.Errorf("%v, not %s, %d", got, kind, status)
	}
}

// P14.1: New: which programs and limits make a run.
func TestNew(t *testing.T) {
	for _, s := range []string{"{ a[1] = a }", "{ f(1) }", "function f(a) { }; { f(1, 2) }", "function f() { }; { f = 1 }", "{ NF[1] }", "function f(NR) { }",
		"/(/", "{ sub(/[/, x) }", "function f() { return split(x, y, /a{2,1}/) }", "{ if (x) { } else while (y) print a[/+/] }", "x, /)/ { }", "{ print /(.{255}){8}/ }"} {
		items, ok := syntax.Parse(s)
		if e, good := New(items, usual()); !ok || good || e != nil {
			t.Errorf("%s: %v, %v", s, ok, good)
		}
	}
	for _, s := range []string{"", "{ print x, a[1] }", "function f(a) { a[1] }; { f(b) }", "/()/, /x*/", "{ split(x, y, /|/) }", "{ x ~ \"(\" }", "{ print /(.{255}){7}/ }"} {
		if e := made(t, s, usual()); e.Out() != "" || len(e.Files()) != 0 {
			t.Errorf("%s: %q", s, e.Out())
		}
	}
	for _, wrong := range []int{0, -1, 1000001, math.MaxInt, math.MinInt} {
		for _, lim := range []api.Limits{{Ticks: wrong, Depth: 1, Length: 1}, {Ticks: 1, Depth: wrong, Length: 1}, {Ticks: 1, Depth: 1, Length: wrong}} {
			if e, ok := New(nil, lim); ok || e != nil {
				t.Errorf("%v", lim)
			}
		}
	}
	for _, right := range []int{1, 2, 1000000} {
		if e, ok := New(nil, api.Limits{Ticks: right, Depth: right, Length: right}); !ok || e == nil {
			t.Errorf("%d", right)
		}
	}
}

// P14.1: what is there at first.
func TestAtFirst(t *testing.T) {
	e := made(t, "function f(p, q) { q[1] = p }\n{ x = a[1]; f(y, b); NR = 1 }", usual())
	checkGet(t, e, map[string]api.Val{"x": val(nil), "y": val(nil), "a": val(nil), "b": val(nil), "f": val(nil), "p": val(nil), "f.q": val(nil), "": val(nil), "other": val(nil),
		"NF": val(0.0), "NR": val(0.0), "FNR": val(0.0), "RSTART": val(0.0), "RLENGTH": val(-1.0), "FS": val(" "), "OFS": val(" "), "ORS": val("\n"), "RS": val("\n"), "SUBSEP": val("\x1c"), "CONVFMT": val("%.6g"), "OFMT": val("%.6g"), "FILENAME": val("")})
	if len(e.Keys("a"))+len(e.Keys("x"))+len(e.Keys("q"))+len(e.Keys("NR"))+len(e.Keys("")) != 0 || e.At("a", "1") != val(nil) || e.At("x", "1") != val(nil) || e.At("other", "") != val(nil) || len(e.Keys("a")) != 0 {
		t.Error("keys at first")
	}
	checkEnd(t, e.Begin(), "", 0)
	checkEnd(t, e.End(), "", 0)
}

// P14.1: Assign, Set: at which names, and what is there then.
func TestAssign(t *testing.T) {
	e := made(t, "function f(p, q) { q[1] = p }\n{ x = a[1]; f(y, b) }", usual())
	wrong := []string{"", "NF", "a", "b", "f", "1", "1x", "x y", " x", "x ", "x\n", "x#", "x.y", "x-", "-x", "$x", "x[1]", "f(", "\"x\"", "/x/", "\xe4", "x\x00", "x\\\n"}
	for _, words := range []string{"BEGIN END function delete in if else while do for break continue next exit return print printf", "length substr index split sub gsub match sprintf tolower toupper int",
		"getline system close fflush nextfile rand srand sin cos atan2 exp log sqrt func ENVIRON ARGV ARGC"} {
		wrong = append(wrong, strings.Fields(words)...)
	}
	for _, name := range wrong {
		if e.Assign(name, "5") || e.Set(name, val(5.0)) || e.Get(name) != val(nil) && name != "NF" {
			t.Errorf("%q is a name", name)
		}
	}
	for _, name := range []string{"x", "y", "new", "_", "_1", "X9", "p", "q", "INT", "begin", "NR", "FNR", "FS", "OFS", "ORS", "RS", "FILENAME", "SUBSEP", "CONVFMT", "OFMT", "RSTART", "RLENGTH"} {
		if !e.Assign(name, " 5x") || e.Get(name) != val(" 5x") || !e.Assign(name, " 5 ") || e.Get(name) != both(" 5 ", 5) || e.Text(name) != " 5 " {
			t.Errorf("Assign of %s: %v", name, e.Get(name))
		}
		for _, v := range []api.Val{val(7.0), val("t"), val(nil), both("7x", 7), val("9")} {
			if !e.Set(name, v) || e.Get(name) != v {
				t.Errorf("Set of %s: %v, not %v", name, e.Get(name), v)
			}
		}
		if !e.Set(name, api.Val{Kind: "other", Num: 3, Str: "s"}) || e.Get(name) != val(nil) || !e.Set(name, both("3", 9)) || e.Get(name) != both("3", 3) || e.Text(name) != "3" {
			t.Errorf("Set of %s: %v", name, e.Get(name))
		}
	}
	if e.Get("NF") != val(0.0) || len(e.Keys("a")) != 0 {
		t.Error("NF or a is another")
	}
}

// P14.1: what is assigned is what the program finds.
func TestAssigned(t *testing.T) {
	e := made(t, "BEGIN { print x, x < 9, y, y < 9; x = z } { print NF, $2, NR; x = $1 } END { print 1 / 4, 1 / 4 \"\" }", usual())
	ok := e.Assign("x", "10") && e.Set("y", val("10")) && e.Set("z", val(2.5)) && e.Assign("FS", ",") && e.Assign("OFMT", "%.1f") && e.Set("CONVFMT", val("%.3f")) && e.Assign("NR", "41")
	checkEnd(t, e.Begin(), "", 0)
	checkGet(t, e, map[string]api.Val{"x": val(2.5), "z": val(2.5), "NR": both("41", 41), "NF": val(0.0)})
	checkEnd(t, e.Record("a b,c"), "", 0)
	ok = ok && e.Assign("FS", " ") && e.Get("NR") == val(42.0) && e.Set("NR", val("6x"))
	checkEnd(t, e.Record("7 b,c d"), "", 0)
	checkGet(t, e, map[string]api.Val{"x": both("7", 7), "NR": val(7.0), "FNR": val(2.0), "NF": val(3.0)})
	checkEnd(t, e.End(), "", 0)
	if want := "10 0 10 1\n2 c 42\n3 b,c 7\n0.2 0.250\n"; !ok || e.Out() != want {
		t.Errorf("%v, %q", ok, e.Out())
	}
}

// P14.1: SetAt, Keys, At.
func TestArrays(t *testing.T) {
	e := made(t, "function f(q) { q[1] = 5; g() }\nfunction g(r) { r[2] }\n{ f(b); x; for (k in a) print k, a[k], a[k] < 9; a[$1] = $2; delete a[\"k\"] }", usual())
	if e.SetAt("x", "k", val(1.0)) || e.SetAt("q", "k", val(1.0)) || e.SetAt("f.q", "k", val(1.0)) || e.SetAt("NR", "k", val(1.0)) || e.SetAt("f", "k", val(1.0)) || e.SetAt("other", "k", val(1.0)) || e.SetAt("", "", val(1.0)) {
		t.Error("SetAt of no array")
	}
	if !e.SetAt("a", "k", both("10", 0)) || !e.SetAt("a", "", val("10")) || !e.SetAt("a", "\xff", val(nil)) || !e.SetAt("a", "k", both("10", 7)) {
		t.Error("SetAt of an array")
	}
	if !slices.Equal(e.Keys("a"), []string{"", "k", "\xff"}) || e.At("a", "k") != both("10", 10) || e.At("a", "") != val("10") || e.At("a", "\xff") != val(nil) || e.At("a", "z") != val(nil) {
		t.Errorf("%q", e.Keys("a"))
	}
	e.Record("z 1e1")
	if want := " 10 1\nk 10 0\n\xff  1\n"; e.Out() != want || !slices.Equal(e.Keys("a"), []string{"", "z", "\xff"}) || e.At("a", "z") != both("1e1", 10) {
		t.Errorf("%q, %q, %v", e.Out(), e.Keys("a"), e.At("a", "z"))
	}
	if !slices.Equal(e.Keys("b"), []string{"1"}) || e.At("b", "1") != val(5.0) || len(e.Keys("q"))+len(e.Keys("r"))+len(e.Keys("x")) != 0 || e.Get("a") != val(nil) || e.Text("a") != "" {
		t.Error("other arrays")
	}
}

// P14.1: Text is a scalar's text, by CONVFMT's.
func TestText(t *testing.T) {
	e := made(t, "{ x = 1 / 3; y = $1; a[1] = 2 }", usual())
	e.Record("1.50 b")
	for name, want := range map[string]string{"x": "0.333333", "y": "1.50", "z": "", "a": "", "NF": "2", "NR": "1", "FS": " ", "RLENGTH": "-1", "": "", "other": ""} {
		if got := e.Text(name); got != want {
			t.Errorf("%s: %q", name, got)
		}
	}
	e.Assign("CONVFMT", "%.2f")
	if e.Text("x") != "0.33" || e.Text("y") != "1.50" {
		t.Errorf("%q", e.Text("x"))
	}
	e.Assign("CONVFMT", "%d")
	if e.Text("x") != "" || e.Text("y") != "1.50" || e.Text("NR") != "1" || e.Text("CONVFMT") != "%d" {
		t.Errorf("%q", e.Text("x"))
	}
	e.Set("CONVFMT", val(0.25))
	if e.Text("x") != "" || e.Text("CONVFMT") != "0.25" {
		t.Errorf("%q, %q", e.Text("x"), e.Text("CONVFMT"))
	}
	checkEnd(t, e.Record(""), "", 0)
}

// P14.1: File, and what counts records.
func TestFile(t *testing.T) {
	e := made(t, "{ print FILENAME, FNR, NR } END { print FILENAME, FNR, NR }", usual())
	e.Begin()
	e.File("10")
	checkGet(t, e, map[string]api.Val{"FILENAME": val("10"), "FNR": val(0.0), "NR": val(0.0)})
	e.Record("a")
	e.Record("b")
	e.File("g h")
	checkGet(t, e, map[string]api.Val{"FILENAME": val("g h"), "FNR": val(0.0), "NR": val(2.0)})
	e.Record("c")
	e.File("")
	e.End()
	if want := "10 1 1\n10 2 2\ng h 1 3\n 0 3\n"; e.Out() != want {
		t.Errorf("%q", e.Out())
	}
}

// P14.1: Out and Files tell at each time what there is.
func TestOut(t *testing.T) {
	e := made(t, "BEGIN { print 1 } { print > $1; print $1 } END { printf \"x\" > \"b\" }", usual())
	e.Begin()
	before, none := e.Out(), e.Files()
	e.Record("b")
	e.Record("a")
	e.Record("b")
	files := e.Files()
	e.End()
	if before != "1\n" || len(none) != 0 || e.Out() != "1\nb\na\nb\n" || !slices.Equal(files, []api.File{{Name: "b", Data: "b\nb\n"}, {Name: "a", Data: "a\n"}}) || !slices.Equal(e.Files(), []api.File{{Name: "b", Data: "b\nb\nx"}, {Name: "a", Data: "a\n"}}) {
		t.Errorf("%q, %q, %q, %q", before, files, e.Out(), e.Files())
	}
}

// P14.1: END is done once; calls may come in any order.
func TestEndOnce(t *testing.T) {
	e := made(t, "BEGIN { print \"b\" } { print \"r\" } END { print \"e\", NR }", usual())
	checkEnd(t, e.End(), "", 0)
	checkEnd(t, e.End(), "", 0)
	checkEnd(t, e.Record(""), "", 0)
	checkEnd(t, e.Begin(), "", 0)
	checkEnd(t, e.Begin(), "", 0)
	checkEnd(t, e.End(), "", 0)
	if e.Out() != "e 0\nr\nb\nb\n" {
		t.Errorf("%q", e.Out())
	}
}

// P14.1: behind exit nothing is done but END, and the status stays.
func TestExit(t *testing.T) {
	e := made(t, "BEGIN { x = 1 } { print; exit } { x = 2 } END { print \"e\" }", usual())
	e.Begin()
	checkEnd(t, e.Record("0"), "exit", 0)
	checkEnd(t, e.Record("7"), "exit", 0)
	checkEnd(t, e.Begin(), "exit", 0)
	checkGet(t, e, map[string]api.Val{"NR": val(1.0), "x": val(1.0)})
	checkEnd(t, e.End(), "", 0)
	checkEnd(t, e.End(), "", 0)
	checkEnd(t, e.Record("7"), "exit", 0)
	if e.Out() != "0\ne\n" {
		t.Errorf("%q", e.Out())
	}

	for _, c := range []struct {
		line, kind string
		status     int
		later      string
	}{{"1", "", 9, ""}, {"2", "exit", 9, ""}, {"3", "exit", 4, ""}, {"5", "div", 9, "div"}} {
		e = made(t, "{ x = $1; exit 9 } END { print \"e\"; if (x == 2) exit; if (x == 3) exit 4; if (x == 5) x = 1 / 0 }", usual())
		e.Record(c.line)
		checkEnd(t, e.End(), c.kind, c.status)
		checkEnd(t, e.End(), c.later, c.status)
		later := "exit"
		if c.later != "" {
			later = c.later
		}
		checkEnd(t, e.Record("1"), later, c.status)
		checkEnd(t, e.Begin(), later, c.status)
		if e.Out() != "e\n" {
			t.Errorf("%q", e.Out())
		}
	}

	e = made(t, "BEGIN { exit 3 } BEGIN { print 1 } { print 2 } END { print 3 }", usual())
	checkEnd(t, e.Begin(), "exit", 3)
	checkEnd(t, e.Record("a"), "exit", 3)
	checkEnd(t, e.End(), "", 3)
	checkEnd(t, e.End(), "", 3)
	if e.Out() != "3\n" || e.Get("NR") != val(0.0) {
		t.Errorf("%q", e.Out())
	}

	e = made(t, "{ print 1 } END { exit 2 }", usual())
	checkEnd(t, e.End(), "exit", 2)
	checkEnd(t, e.Record("a"), "exit", 2)
	checkEnd(t, e.Begin(), "exit", 2)
	checkEnd(t, e.End(), "", 2)
	if e.Out() != "" {
		t.Errorf("%q", e.Out())
	}
}

// P14.1: the status is a number cut, modulo 256, from 0 up.
func TestStatus(t *testing.T) {
	for number, want := range map[string]int{"0": 0, "1": 1, "255": 255, "256": 0, "300": 44, "-1": 255, "-256": 0, "-300": 212, "3.9": 3, "-0.9": 0, "-1.9": 255, "\"7x\"": 7, "x": 0, "\"\"": 0,
		"2^53 + 2": 2, "-(2^53)": 0, "2^60 + 2^52": 0, "1e300": 0, "1e300 * 1e300": 0, "-1e300 * 1e300": 0, "1e300 * 1e300 - 1e300 * 1e300": 0, "4294967297": 1} {
		e := made(t, "BEGIN { exit "+number+" }", usual())
		checkEnd(t, e.Begin(), "exit", want)
		checkEnd(t, e.End(), "", want)
	}
	// Exit without a number leaves it as it was, a fault, too.
	e := made(t, "{ exit 5 } END { if (x) exit; exit 1 / 0 }", usual())
	e.Set("x", val(1.0))
	e.Record("")
	checkEnd(t, e.End(), "exit", 5)
	e = made(t, "{ exit 5 } END { exit 1 / 0 }", usual())
	e.Record("")
	checkEnd(t, e.End(), "div", 5)
}

// P14.1: a fault ends the run: what is asked later does nothing; what was printed and written stays.
func TestAfterFault(t *testing.T) {
	e := made(t, "BEGIN { print \"b\" } { x = $1; a[x] = 1; print x > \"f\"; print x; y = 1 / x; print \"no\" } { print 2; z = 1 } END { print 3 }", usual())
	e.Begin()
	e.File("g")
	checkEnd(t, e.Record("0"), "div", 0)
	for range 2 {
		checkEnd(t, e.Record("1"), "div", 0)
		checkEnd(t, e.Begin(), "div", 0)
		checkEnd(t, e.End(), "div", 0)
		e.File("h")
		if e.Assign("x", "5") || e.Set("x", val(5.0)) || e.SetAt("a", "k", val(5.0)) {
			t.Error("something was put behind a fault")
		}
	}
	checkGet(t, e, map[string]api.Val{"x": both("0", 0), "y": val(nil), "z": val(nil), "NR": val(1.0), "FNR": val(1.0), "FILENAME": val("g"), "NF": val(1.0)})
	if e.Out() != "b\n0\n" || !slices.Equal(e.Files(), []api.File{{Name: "f", Data: "0\n"}}) || !slices.Equal(e.Keys("a"), []string{"0"}) || e.Text("x") != "0" {
		t.Errorf("%q, %q, %q", e.Out(), e.Files(), e.Keys("a"))
	}
}

// P14.1: a fault leaves all as it was ahead of what it ended.
func TestHalfDone(t *testing.T) {
	for _, c := range []struct {
		source string
		want   map[string]api.Val
	}{
		{"x = 1 / 0", map[string]api.Val{"x": val(nil)}},
		{"x = 5; x /= 0", map[string]api.Val{"x": val(5.0)}},
		{"x = 5; x %= y", map[string]api.Val{"x": val(5.0)}},
		{"x = 5; x ^= .5", map[string]api.Val{"x": val(5.0)}},
		{"x = (y = 3) / (z = 0)", map[string]api.Val{"x": val(nil), "y": val(3.0), "z": val(0.0)}},
		{"x++ + 1 / 0", map[string]api.Val{"x": val(1.0)}},
		{"$(x = 1001) = y = 2", map[string]api.Val{"x": val(1001.0), "y": val(2.0), "NF": val(0.0)}},
		{"$(x = -1) += y = 2", map[string]api.Val{"x": val(-1.0), "y": val(2.0), "NF": val(0.0)}},
		{"NF = 2; NF = x = -1", map[string]api.Val{"x": val(-1.0), "NF": val(2.0)}},
		{"a[x = 2] = y = 1 % 0", map[string]api.Val{"x": val(2.0), "y": val(nil)}},
		{"x = \"ab\"; sub(/b/, y = \"(\", x) + sub(y, z = 1, x)", map[string]api.Val{"x": val("a("), "y": val("("), "z": val(1.0)}},
		{"x = 1 ~ (y = \"(\")", map[string]api.Val{"x": val(nil), "y": val("(")}},
		{"split(x = \"a b\", a, y = \"((\")", map[string]api.Val{"x": val("a b"), "y": val("((")}},
		{"match(x = \"a\", y = \"(\")", map[string]api.Val{"x": val("a"), "y": val("("), "RSTART": val(0.0), "RLENGTH": val(-1.0)}},
		{"a[2]; for (x in a) for (;;) y = 1", map[string]api.Val{"x": both("2", 2), "y": val(1.0)}},
		{"OFS = \"" + strings.Repeat("-", 99) + "\"; $3 = x = \"ab\"", map[string]api.Val{"x": val("ab"), "NF": val(3.0)}},
		{"$2 = x = \"" + strings.Repeat("-", 100) + "\"", map[string]api.Val{"NF": val(2.0)}},
		{"NF = 101; NF = 102", map[string]api.Val{"NF": val(102.0)}},
		{"FS = \"((\"; $0 = \"a\"", map[string]api.Val{"NF": val(0.0)}},
		{"print x = 1 > (y = \"\")", map[string]api.Val{"x": val(1.0), "y": val("")}},
	} {
		e := made(t, "BEGIN { a[\"k\"]; "+c.source+"; print \"no\" }", usual())
		if end := e.Begin(); end.Kind == "" || e.Out() != "" || len(e.Files()) != 0 {
			t.Errorf("%s: %v, %q", c.source, end, e.Out())
		}
		checkGet(t, e, c.want)
		if keys := e.Keys("a"); !strings.Contains(c.source, "a[2]") && !slices.Equal(keys, []string{"k"}) {
			t.Errorf("%s: %q", c.source, keys)
		}
	}
}

// P14.1: a record that isn't parted is counted, and the one ahead of it stays.
func TestRecordFault(t *testing.T) {
	for kind, calls := range map[string]func(e *Engine){
		"ere":  func(e *Engine) { e.Assign("FS", "((") },
		"conv": func(e *Engine) { e.Set("FS", val(.5)); e.Assign("CONVFMT", "x") },
	} {
		e := made(t, "{ print } END { print }", usual())
		e.Record("a b")
		calls(e)
		checkEnd(t, e.Record("c"), kind, 0)
		checkGet(t, e, map[string]api.Val{"NR": val(2.0), "FNR": val(2.0), "NF": val(2.0)})
		checkEnd(t, e.End(), kind, 0)
		if e.Out() != "a b\n" {
			t.Errorf("%q", e.Out())
		}
	}
	e := made(t, "{ print }", usual())
	e.Set("RS", val(.5))
	e.Assign("CONVFMT", "x")
	checkEnd(t, e.Record("a"), "conv", 0)
}

// R2, P0: of a nil run, and of one that New didn't make, all answers are zero values.
func TestNil(t *testing.T) {
	for i, e := range []*Engine{nil, {}} {
		e.File("f")
		ends := []api.End{e.Begin(), e.Record("a"), e.End(), e.End()}
		if e.Assign("x", "1") || e.Set("x", val(1.0)) || e.SetAt("a", "k", val(1.0)) || !slices.Equal(ends, make([]api.End, 4)) {
			t.Errorf("%d: %v", i, ends)
		}
		if e.Text("x") != "" || e.Text("NF") != "" || e.Out() != "" || len(e.Files()) != 0 || e.Get("x") != (api.Val{}) || e.Get("NF") != (api.Val{}) || len(e.Keys("a")) != 0 || e.At("a", "k") != (api.Val{}) {
			t.Errorf("%d answers something", i)
		}
	}
}
