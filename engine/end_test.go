package engine

import (
	"reflect"
	"slices"
	"strconv"
	"strings"
	"sync"
	"testing"
	"unsafe"

	"tedder/api"
	"tedder/sample"
	"tedder/syntax"
)

// greatest gives the greatest limits.
func greatest() api.Limits {
	return api.Limits{Ticks: 1000000, Depth: 1000000, Length: 1000000}
}

// checkGreat does a program with the greatest limits.
func checkGreat(t *testing.T, s, want string, lines ...string) {
	t.Helper()
	if got := played(t, s, greatest(), lines...); got != want {
		t.Errorf("%.200s\n%.200s\nnot\n%.200s", s, got, want)
	}
}

// P0: as many ticks as may be, and as deep calls, end.
func TestGreatest(t *testing.T) {
	checkGreat(t, "BEGIN { for (;;) i++ } END { print i }", "!tick")
	checkGreat(t, "BEGIN { while (i < 1000000) i++; print i }", "1000000|")
	checkGreat(t, "BEGIN { do ; while (1) }", "!tick")
	checkGreat(t, "function f() { f() } BEGIN { f() }", "!tick")
	checkGreat(t, "function f(n) { return n == 0 ? 0 : 1 + f(n - 1) } BEGIN { print f(999999) }", "999999|")
	checkGreat(t, "function f(n, a) { a[n]; if (n) return f(n - 1, a); for (k in a) n++; return n } BEGIN { print f(200000) }", "200001|")
	checkGreat(t, "BEGIN { while (i++ < 300000) a[i] = i; for (k in a) s += a[k]; print s }", "45000150000|")
	e := made(t, "function f() { n++; f() } BEGIN { f() }", api.Limits{Ticks: 1000000, Depth: 999999, Length: 1})
	checkEnd(t, e.Begin(), "depth", 0)
	checkGet(t, e, map[string]api.Val{"n": val(999999.0)})
}

// P0: programs of about as many tokens as may be, and as deep.
func TestGreatPrograms(t *testing.T) {
	within := func(ahead, behind string, count int) string {
		return strings.Repeat(ahead, count) + "x" + strings.Repeat(behind, count)
	}
	var params []string
	for i := range 4000 {
		params = append(params, "p"+strconv.Itoa(i))
	}
	list := strings.Join(params, ",")
	for _, p := range []sourced{
		{strings.Repeat("{}", 10000), ""},
		{strings.Repeat("a\n", 10000), ""},
		{"{" + strings.Repeat("for(;;)break;", 2000) + "}", ""},
		{"{" + strings.Repeat(strings.Repeat("a ", 190)+";", 104) + "}", ""},
		{"{" + strings.Repeat("x++;", 5000) + "} END { print x }", "10000|"},
		{"{" + strings.Repeat("print;", 9000) + "}", strings.Repeat("l|", 9000) + strings.Repeat("m|", 9000)},
		{"BEGIN { print " + within("(", ")", 190) + " }", "|"},
		{"BEGIN { print " + within("a[", "]", 190) + " }", "|"},
		{"BEGIN { print " + within("x ? x : (", ")", 95) + " }", "|"},
		{"BEGIN { print " + strings.Repeat("1 && ", 190) + "x }", "0|"},
		{"BEGIN { x = 1; " + within("if (x) ", "; else x", 190) + " }", ""},
		{"BEGIN { a[1]; " + strings.Repeat("for (k in a) ", 190) + "print k }", "1|"},
		{"function f() { " + strings.Repeat("for (k in a) ", 190) + "return k } BEGIN { a[1]; print f() f() }", "11|"},
		{"function f(" + list + ") { return p0 p3999 }\n{ print f(" + list + ") f(1) }", "1|1|"},
		{"function f() { return 1 }\nBEGIN { print " + within("(f() ", ")", 95) + " }", strings.Repeat("1", 95) + "|"},
		{"function f(a) { return a 1 }\nBEGIN { print " + within("f(", ")", 190) + " }", strings.Repeat("1", 190) + "|"},
		{"BEGIN { a[" + list + "] = sprintf(" + list + "); for (k in a) print length(k) }", "3999|"},
		{"BEGIN { print " + list + " }", strings.Repeat(" ", 3999) + "|"},
		{"{ " + strings.Repeat("/(.{255}){7}/;", 4000) + " }", ""},
	} {
		checkGreat(t, p.source, p.want, "l", "m")
	}
}

// P0: no text is made that is far longer than a text may be.
func TestLongSoon(t *testing.T) {
	const double = "x = \"x\"; while (length(x) < 500000) x = x x; "
	var many []string
	for range 4000 {
		many = append(many, "x")
	}
	list := strings.Join(many, ",")
	checkGreat(t, "BEGIN { x = \"x\"; for (;;) x = x x }", "!length")
	checkGreat(t, "BEGIN { "+double+"y = \"x\"; for (;;) gsub(/x/, x, y) }", "!length")
	checkGreat(t, "BEGIN { "+double+"a["+list+"] }", "!length")
	checkGreat(t, "BEGIN { "+double+"SUBSEP = x; a["+strings.Repeat("1,", 4000)+"1] }", "!length")
	checkGreat(t, "BEGIN { "+double+"OFS = x; NF = 1000 }", "!length")
	checkGreat(t, "BEGIN { "+double+"OFS = x; $1000 = 1 }", "!length")
	checkGreat(t, "BEGIN { "+double+"OFS = x; $2147483647 = 1 }", "!field")
	checkGreat(t, "BEGIN { "+double+"OFS = x; NF = 2147483647 }", "!field")
	checkGreat(t, "BEGIN { "+double+"FS = \"\"; OFS = x } { print NF; NF = NF; print }", "300000|!length", strings.Repeat("y", 300000))
	checkGreat(t, "BEGIN { "+double+"FS = \"\"; OFS = x } { print NF; $2 = 1; print }", "300000|!length", strings.Repeat("y", 300000))
}

// P0: long lines, with many fields, and long texts of all bytes.
func TestGreatRecords(t *testing.T) {
	const long = 1 << 19
	checkGreat(t, "{ print NF, length; $2 = \"\"; print NF, length; print $NF; NF = 3; print }", "262144 524287|262144 524286|a|a  a|", strings.Repeat("a ", long/2-1)+"a")
	checkGreat(t, "BEGIN { FS = \"\" } { print NF; n = split($0, a, \"\"); print n, a[n], $NF; $0 = \"\"; print NF }", "524288|524288 \xff \xff|0|", strings.Repeat(sample.AllBytes(), long/256))
	checkGreat(t, "{ print length, index($0, \"b\"), match($0, \"b$\"), substr($0, length) }", "524289 524289 524289 b|", strings.Repeat("a", long)+"b")
	line := strings.Repeat("a", 1000001)
	checkGreat(t, "{ print gsub(/a/, \"&\") }", "!length", line)
	checkGreat(t, "{ print > $0; x = $0; $0 = x; print length, x == $0; a[$0] }", "1000001 1|["+line+":"+line+"|]!length", line)
	all := sample.AllBytes()
	e := made(t, "{ x = $0; a[$0] = $0; $1 = $1; print x; print > x; for (k in a) print k == x }", api.Limits{Ticks: 9, Depth: 9, Length: 256})
	e.Assign("FS", "z")
	e.Assign("OFS", "z")
	checkEnd(t, e.Record(all), "", 0)
	if e.Text("x") != all || e.Out() != all+"\n1\n" || !slices.Equal(e.Keys("a"), []string{all}) || e.At("a", all) != val(all) || !slices.Equal(e.Files(), []api.File{{Name: all, Data: all + "\n"}}) {
		t.Errorf("%q, %q", e.Out(), e.Files())
	}
}

// P0: calls with any arguments answer, and names of any bytes.
func TestAnyArguments(t *testing.T) {
	e := made(t, "{ x = $1; a[x]; FS = x }", api.Limits{Ticks: 1, Depth: 1, Length: 1000000})
	for _, s := range append(sample.Texts("\x00x(\xff\n", 3), strings.Repeat("x", 1<<17), strings.Repeat("(", 1<<17), strings.Repeat("\x80", 1<<19)) {
		e.File(s)
		e.Assign(s, s)
		e.Set(s, api.Val{Kind: s, Num: 1, Str: s})
		e.SetAt(s, s, api.Val{Kind: s, Str: s})
		if !e.SetAt("a", s, val(s)) || e.At("a", s) != val(s) || !e.Assign("y", s) || e.Text("y") != s || e.At(s, s) != val(nil) || e.Text("FILENAME") != s {
			t.Errorf("%.20q", s)
		}
		e.Get(s)
		e.Keys(s)
		e.Text(s)
		e.Assign("FS", " ")
		checkEnd(t, e.Record(s), "", 0)
	}
}

// spoilt changes all that trees hold.
func spoilt(l []api.Node) {
	for i := range l {
		spoilt(l[i].Kids)
		l[i] = api.Node{Op: "spoilt"}
	}
}

// R4: the items are neither changed nor kept.
func TestItems(t *testing.T) {
	m := sample.Maker{Bits: sample.Bits(200000)}
	lines := []string{"a 1", "b,2"}
	for len(m.Bits) > 20000 {
		s := m.Program()
		items, _ := syntax.Parse(s)
		same, _ := syntax.Parse(s)
		e, _ := New(items, usual())
		other, _ := New(same, usual())
		if !reflect.DeepEqual(items, same) {
			t.Fatalf("New changes the items of\n%s", s)
		}
		spoilt(items)
		for _, x := range []*Engine{e, other} {
			x.Begin()
			for _, line := range lines {
				x.Record(line)
			}
		}
		if e.End() != other.End() || e.Out() != other.Out() || !slices.Equal(e.Files(), other.Files()) {
			t.Fatalf("what becomes of the items changes\n%s", s)
		}
	}
}

// within tells whether the bytes of piece lie in the memory of s.
func within(piece, s string) bool {
	if piece == "" || s == "" {
		return false
	}
	at, from := uintptr(unsafe.Pointer(unsafe.StringData(piece))), uintptr(unsafe.Pointer(unsafe.StringData(s)))
	return at >= from && at < from+uintptr(len(s))
}

// R4: no memory of what is handed in is kept, or answered.
func TestNotKept(t *testing.T) {
	e := made(t, "{ x = $0; y = $1; z = $2; a[$1] = $2; b[$0]; printf \"%s\", $0; printf \"%s\", $0 > $1 }", usual())
	texts := []string{strings.Clone("hello you"), strings.Clone("12 34"), strings.Clone(" 5 ")}
	for _, s := range texts {
		e.File(s)
		e.Assign("u", s)
		e.Set("v", val(s))
		e.Set("w", api.Val{Kind: "both", Str: s})
		e.SetAt("a", s, val(s))
		e.SetAt("a", "k", api.Val{Kind: "both", Str: s})
		e.Record(s)
		told := append(append(e.Keys("a"), e.Keys("b")...), e.Out(), e.At("a", s).Str, e.At("a", "k").Str, e.At("a", "hello").Str)
		for _, name := range []string{"u", "v", "w", "x", "y", "z", "FILENAME"} {
			told = append(told, e.Get(name).Str, e.Text(name))
		}
		for _, f := range e.Files() {
			told = append(told, f.Name, f.Data)
		}
		for _, piece := range told {
			if within(piece, s) {
				t.Errorf("%q shares memory with %q", piece, s)
			}
		}
	}
	name := strings.Clone("newname")
	e.Assign(name, "1")
	if !e.Assign("newname", "2") || e.Get(name) != both("2", 2) {
		t.Error("a new name")
	}
}

// R4: lists that are answered are the caller's own.
func TestOwnLists(t *testing.T) {
	e := made(t, "{ a[$1] = $1; print > $1 }", usual())
	for _, line := range []string{"b", "a", "c"} {
		e.Record(line)
	}
	keys, files := e.Keys("a"), e.Files()
	sameKeys, sameFiles := e.Keys("a"), e.Files()
	for i := range keys[:cap(keys)] {
		keys[:cap(keys)][i] = "spoilt"
	}
	for i := range files[:cap(files)] {
		files[:cap(files)][i] = api.File{Name: "spoilt"}
	}
	e.Record("a")
	if !slices.Equal(sameKeys, []string{"a", "b", "c"}) || !slices.Equal(e.Keys("a"), sameKeys) || !slices.Equal(sameFiles, []api.File{{Name: "b", Data: "b\n"}, {Name: "a", Data: "a\n"}, {Name: "c", Data: "c\n"}}) || e.Files()[1].Data != "a\na\n" {
		t.Errorf("%q, %q", e.Keys("a"), e.Files())
	}
}

// R7: two runs with the same calls answer the same, also where several are done at once.
func TestSameRuns(t *testing.T) {
	m := sample.Maker{Bits: sample.Bits(150000)}
	type told struct {
		ends  []api.End
		out   string
		files []api.File
	}
	run := func(s string) told {
		e := made(t, s, usual())
		ends := []api.End{e.Begin(), e.Record("1 b"), e.Record("x,y"), e.End()}
		return told{ends, e.Out(), e.Files()}
	}
	for len(m.Bits) > 20000 {
		s := m.Program()
		want := run(s)
		var all sync.WaitGroup
		for range 4 {
			all.Go(func() {
				for range 2 {
					if got := run(s); !reflect.DeepEqual(got, want) {
						t.Errorf("%s\n%v, then %v", s, want, got)
					}
				}
			})
		}
		all.Wait()
	}
}
