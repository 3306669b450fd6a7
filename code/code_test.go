package code

import (
	"slices"
	"strconv"
	"strings"
	"testing"

	"tedder/api"
	"tedder/names"
	"tedder/syntax"
)

// compiled gives the code of a program, of which all ops have to take and lay what ops of their kind do.
func compiled(t *testing.T, s string) []api.Part {
	t.Helper()
	l, ok := syntax.Parse(s)
	if !ok {
		t.Fatalf("%.200q is no program", s)
	}
	n, ok := names.Resolve(l)
	if !ok {
		t.Fatalf("the names of %.200q aren't right", s)
	}
	parts := Compile(l, n)
	for _, p := range parts {
		for _, o := range p.Ops {
			if pop, push := taken(o.Do), laid(o.Do); pop >= 0 && o.Pop != pop || o.Push != push {
				t.Errorf("%.200q: %s takes %d and lays %d", s, o.Do, o.Pop, o.Push)
			}
		}
	}
	if !Check(parts) {
		t.Errorf("%.200q: %.2000s isn't sound", s, shownAll(parts))
	}
	return parts
}

// taken gives how many values ops of a kind take; below 0 of those of which it isn't told.
func taken(do string) int {
	switch do {
	case "num", "str", "ere", "var", "&var", "local", "&local", "array", "line", "tick", "jump", "params", "end":
		return 0
	case "field", "&field", "unary", "pre", "post", "keys", "iftrue", "iffalse", "status", "result":
		return 1
	case "elem", "&elem", "in", "delete", "bin", "assign", "each":
		return 2
	}
	return -1
}

// laid gives how many values ops of a kind lay.
func laid(do string) int {
	switch do {
	case "drop", "print", "printf", "line", "delete", "tick", "jump", "iftrue", "iffalse", "status", "result", "return", "next", "exit", "params", "end":
		return 0
	case "each":
		return 2
	}
	return 1
}

// shown gives an op as a text: what it does, :Text, #N, /Pop, if its kind doesn't tell it, @Jump, and a point behind what is never passed.
func shown(o api.Op) string {
	s := o.Do
	if o.Text != "" {
		s += ":" + o.Text
	}
	if o.N != 0 {
		s += "#" + strconv.Itoa(o.N)
	}
	if taken(o.Do) < 0 {
		s += "/" + strconv.Itoa(o.Pop)
	}
	if o.Jump >= 0 {
		s += "@" + strconv.Itoa(o.Jump)
	}
	if o.Last {
		s += "."
	}
	return s
}

// shownAll gives parts as a text: of each its Kind, a blank and its Name, and its ops.
func shownAll(parts []api.Part) string {
	var l []string
	for _, p := range parts {
		s := p.Kind + " " + p.Name + "("
		for i, o := range p.Ops {
			if i > 0 {
				s += " "
			}
			s += shown(o)
		}
		l = append(l, s+")")
	}
	return strings.Join(l, " ")
}

// source: a program, or part of one, and its code as shownAll, or shown, gives it.
type source struct {
	text, want string
}

// checkCode holds the code of programs against what is wanted.
func checkCode(t *testing.T, l []source) {
	t.Helper()
	for _, s := range l {
		if got := shownAll(compiled(t, s.text)); got != s.want {
			t.Errorf("%q: %s, not %s", s.text, got, s.want)
		}
	}
}

// checkExpressions holds the ops of patterns against what is wanted.
func checkExpressions(t *testing.T, l []source) {
	t.Helper()
	for _, s := range l {
		checkCode(t, []source{{s.text, "pattern (" + s.want + " end.) rule (line end.)"}})
	}
}

// checkStatements holds the ops of statements in a rule's block against what is wanted.
func checkStatements(t *testing.T, l []source) {
	t.Helper()
	for _, s := range l {
		checkCode(t, []source{{"{ " + s.text + " }", "rule (" + strings.TrimPrefix(s.want+" end.", " ") + ")"}})
	}
}

// P13.1: the chapter's example, and a program without items.
func TestExamples(t *testing.T) {
	checkCode(t, []source{
		{"", ""},
		{"BEGIN { x = 1 }", "BEGIN (&var:x num:1 assign:= drop/1 end.)"},
	})
}

// P13.1: the parts of each item, in order.
func TestParts(t *testing.T) {
	checkCode(t, []source{
		{"BEGIN { }", "BEGIN (end.)"},
		{"END { }", "END (end.)"},
		{"{ }", "rule (end.)"},
		{"1", "pattern (num:1 end.) rule (line end.)"},
		{"1 { }", "pattern (num:1 end.) rule (end.)"},
		{"1, 2", "from (num:1 end.) to (num:2 end.) rule (line end.)"},
		{"1, 2 { }", "from (num:1 end.) to (num:2 end.) rule (end.)"},
		{"function f() { }", "func f(params end.)"},
		{"END { }; 1; BEGIN { }; { }; 1, 2; END { }; function g() { }; BEGIN { }; 2 { }; function f() { }; 1, 2 { }",
			"END (end.) pattern (num:1 end.) rule (line end.) BEGIN (end.) rule (end.) from (num:1 end.) to (num:2 end.) rule (line end.) END (end.) func g(params end.) BEGIN (end.) pattern (num:2 end.) rule (end.) func f(params end.) from (num:1 end.) to (num:2 end.) rule (end.)"},
		{"1 { print }", "pattern (num:1 end.) rule (print/0 end.)"},
	})
}

// P13.1: operands, and what stands between them.
func TestExpressions(t *testing.T) {
	checkExpressions(t, []source{
		{"007.5e1", "num:007.5e1"},
		{`"a b"`, "str:a b"},
		{`""`, "str"},
		{"/a/", "ere:a"},
		{"x", "var:x"},
		{"NF", "var:NF"},
		{"(x)", "var:x"},
		{"((/a/))", "ere:a"},
		{"$x", "var:x field"},
		{"$$1", "num:1 field field"},
		{"a[x]", "array:a var:x key/1 elem"},
		{"a[x, 2, y]", "array:a var:x num:2 var:y key/3 elem"},
		{"a[b[x]]", "array:a array:b var:x key/1 elem key/1 elem"},
		{"x in a", "array:a var:x key/1 in"},
		{"(x, y) in a", "array:a var:x var:y key/2 in"},
		{"x in a in b", "array:b array:a var:x key/1 in key/1 in"},
		{"-x", "var:x unary:-"},
		{"!+x", "var:x unary:+ unary:!"},
		{"x - y", "var:x var:y bin:-"},
		{"x y z", "var:x var:y bin:cat var:z bin:cat"},
		{"x + y * z", "var:x var:y var:z bin:* bin:+"},
		{"(x < y) > z", "var:x var:y bin:< var:z bin:>"},
		{"2 ^ 3 ^ x", "num:2 num:3 var:x bin:^ bin:^"},
		{"x ~ /a/", "var:x str:a bin:~"},
		{"x !~ y", "var:x var:y bin:!~"},
		{"/a/ ~ /b/ ~ z", "ere:a str:b bin:~ var:z bin:~"},
		{"x ~ (/a/)", "var:x ere:a bin:~"},
		{"x == /a/", "var:x ere:a bin:=="},
	})
}

// P13.1: expressions of which not all is done.
func TestShortened(t *testing.T) {
	checkExpressions(t, []source{
		{"x && y", "var:x iffalse@6 var:y iffalse@6 num:1 jump@7. num:0"},
		{"x || y", "var:x iftrue@6 var:y iftrue@6 num:0 jump@7. num:1"},
		{"x && y && z", "var:x iffalse@6 var:y iffalse@6 num:1 jump@7. num:0 iffalse@12 var:z iffalse@12 num:1 jump@13. num:0"},
		{"x || y && z", "var:x iftrue@12 var:y iffalse@8 var:z iffalse@8 num:1 jump@9. num:0 iftrue@12 num:0 jump@13. num:1"},
		{"x ? y : z", "var:x iffalse@4 var:y jump@5. var:z"},
		{"x ? y : z ? 1 : 2", "var:x iffalse@4 var:y jump@9. var:z iffalse@8 num:1 jump@9. num:2"},
		{"-(x ? y : z) 1", "var:x iffalse@4 var:y jump@5. var:z unary:- num:1 bin:cat"},
	})
}

// P13.1: where something is put.
func TestPlaces(t *testing.T) {
	checkExpressions(t, []source{
		{"x = 1", "&var:x num:1 assign:="},
		{"x += y = z", "&var:x &var:y var:z assign:= assign:+="},
		{"NF ^= 2", "&var:NF num:2 assign:^="},
		{"a[x] -= y", "array:a var:x key/1 &elem var:y assign:-="},
		{"a[x, y] = z", "array:a var:x var:y key/2 &elem var:z assign:="},
		{"$x *= 2", "var:x &field num:2 assign:*="},
		{"$$x = 2", "var:x field &field num:2 assign:="},
		{"x++", "&var:x post:++"},
		{"--x", "&var:x pre:--"},
		{"a[1]--", "array:a num:1 key/1 &elem post:--"},
		{"++$x", "var:x &field pre:++"},
		{"$x++", "var:x &field post:++"},
		{"a[x++] = $--y", "array:a &var:x post:++ key/1 &elem &var:y pre:-- field assign:="},
	})
}

// P13.1: the language's functions.
func TestBuilt(t *testing.T) {
	checkExpressions(t, []source{
		{"length", "num:0 field built:length/1"},
		{"length()", "num:0 field built:length/1"},
		{"length(x)", "var:x built:length/1"},
		{"substr(x, 1)", "var:x num:1 built:substr/2"},
		{"substr(x, 1, y)", "var:x num:1 var:y built:substr/3"},
		{"index(x, /a/)", "var:x ere:a built:index/2"},
		{"tolower(x) toupper(y)", "var:x built:tolower/1 var:y built:toupper/1 bin:cat"},
		{"int(x)", "var:x built:int/1"},
		{"sprintf(x)", "var:x built:sprintf/1"},
		{"sprintf(x, y, 1)", "var:x var:y num:1 built:sprintf/3"},
		{"split(x, a)", "var:x array:a built:split/2"},
		{"split(x, a, y)", "var:x array:a var:y built:split/3"},
		{"split(x, a, / /)", "var:x array:a str:( ) built:split/3"},
		{"split(/b/, a, (/c/))", "ere:b array:a ere:c built:split/3"},
		{"sub(/a/, x)", "str:a var:x num:0 &field built:sub/3"},
		{"gsub(y, /b/)", "var:y ere:b num:0 &field built:gsub/3"},
		{"sub(/a/, x, y)", "str:a var:x &var:y built:sub/3"},
		{"gsub((/a/), x, a[y])", "ere:a var:x array:a var:y key/1 &elem built:gsub/3"},
		{"sub(1, 2, $x)", "num:1 num:2 var:x &field built:sub/3"},
		{"match(x, /a/)", "var:x str:a built:match/2"},
		{"match(/a/, x)", "ere:a var:x built:match/2"},
	})
}

// P13.1: statements without loops.
func TestStatements(t *testing.T) {
	checkStatements(t, []source{
		{"", ""},
		{"; { } { ; }", ""},
		{"x; y", "var:x drop/1 var:y drop/1"},
		{"{ x } ; { { y } }", "var:x drop/1 var:y drop/1"},
		{"print", "print/0"},
		{"print x", "var:x print#1/1"},
		{"print x, y", "var:x var:y print#2/2"},
		{"print(x, y)", "var:x var:y print#2/2"},
		{"print > x", "var:x print:>/1"},
		{"print x, y >> z", "var:x var:y var:z print:>>#2/3"},
		{"printf x", "var:x printf#1/1"},
		{"printf x, y > z", "var:x var:y var:z printf:>#2/3"},
		{"delete a[x]", "array:a var:x key/1 delete"},
		{"delete a[x, 1]", "array:a var:x num:1 key/2 delete"},
		{"if (x) y", "var:x iffalse@4 var:y drop/1"},
		{"if (x) y; else z", "var:x iffalse@5 var:y drop/1 jump@7. var:z drop/1"},
		{"if (x) { } else ;", "var:x iffalse@3 jump@3."},
		{"if (x) if (y) 1; else 2", "var:x iffalse@9 var:y iffalse@7 num:1 drop/1 jump@9. num:2 drop/1"},
		{"next", "next/0@1."},
		{"exit", "exit/0@1."},
		{"exit x", "var:x status exit/0@3."},
		{"next; x", "next/0@3. var:x drop/1"},
		{"if (x) next; exit", "var:x iffalse@3 next/0@4. exit/0@4."},
	})
}

// P13.1: loops, and what leaves them.
func TestLoops(t *testing.T) {
	checkStatements(t, []source{
		{"while (x) y", "var:x iffalse@6 tick var:y drop/1 jump@0."},
		{"do x; while (y)", "tick var:x drop/1 var:y iftrue@0"},
		{"for (;;) ;", "tick jump@0."},
		{"for (x; y; z) 1", "var:x drop/1 var:y iffalse@10 tick num:1 drop/1 var:z drop/1 jump@2."},
		{"for (; y;) ;", "var:y iffalse@4 tick jump@0."},
		{"for (print x;; delete a[1]) ;", "var:x print#1/1 tick array:a num:1 key/1 delete jump@2."},
		{"for (x in a) y", "&var:x array:a keys each@8 tick var:y drop/1 jump@3. drop/2"},
		{"while (x) { if (y) break; if (z) continue; 1 }", "var:x iffalse@12 tick var:y iffalse@6 jump@12. var:z iffalse@9 jump@11. num:1 drop/1 jump@0."},
		{"do { if (y) break; if (z) continue; 1 } while (x)", "tick var:y iffalse@4 jump@11. var:z iffalse@7 jump@9. num:1 drop/1 var:x iftrue@0"},
		{"for (;; x) { if (y) break; if (z) continue }", "tick var:y iffalse@4 jump@10. var:z iffalse@7 jump@7. var:x drop/1 jump@0."},
		{"for (x in a) { if (y) break; continue }", "&var:x array:a keys each@10 tick var:y iffalse@8 jump@10. jump@9. jump@3. drop/2"},
		{"for (x in a) next", "&var:x array:a keys each@7 tick next/2@8. jump@3. drop/2"},
		{"for (x in a) for (y in b) exit 1", "&var:x array:a keys each@16 tick &var:y array:b keys each@14 tick num:1 status exit/4@17. jump@8. drop/2 jump@3. drop/2"},
		{"for (x in a) { for (y in b) ; next }; next", "&var:x array:a keys each@14 tick &var:y array:b keys each@11 tick jump@8. drop/2 next/2@16. jump@3. drop/2 next/0@16."},
		{"while (1) for (break; x; continue) break", "num:1 iffalse@11 tick jump@11. var:x iffalse@10 tick jump@10. jump@10. jump@4. jump@0."},
		{"while (1) { while (2) break; continue }", "num:1 iffalse@10 tick num:2 iffalse@8 tick jump@8. jump@3. jump@9. jump@0."},
	})
}

// P13.1: functions, their parameters, and calls.
func TestFunctions(t *testing.T) {
	checkCode(t, []source{
		{"function f(a, b, c) { a = b; c[a] = x; d[1] }", "func f(params:ssa &local local#1 assign:= drop/1 local#2 local key/1 &elem var:x assign:= drop/1 array:d num:1 key/1 elem drop/1 end.)"},
		{"function f(a) { return }", "func f(params:s return/0@2. end.)"},
		{"function f(a) { return a; a++ }", "func f(params:s local result return/0@7. &local post:++ drop/1 end.)"},
		{"function f(a) { for (k in a) return k }", "func f(params:a &var:k local keys each@10 tick var:k result return/2@11. jump@4. drop/2 end.)"},
		{"function f(k) { for (k in a) for (i in a) { exit } }", "func f(params:s &local array:a keys each@15 tick &var:i array:a keys each@13 tick exit/4@16. jump@9. drop/2 jump@4. drop/2 end.)"},
		{"function f(a, b) { split(b, a); 1 in a; delete a[1]; sub(/x/, 1, b) }",
			"func f(params:as local#1 local built:split/2 drop/1 local num:1 key/1 in drop/1 local num:1 key/1 delete str:x num:1 &local#1 built:sub/3 drop/1 end.)"},
		{"function f(a, b) { f(b, a); f(x, y) }\nBEGIN { f(); f(x); x[1] }", "func f(params:aa local#1 local tick call:f/2 drop/1 array:x array:y tick call:f/2 drop/1 end.) BEGIN (tick call:f/0 drop/1 array:x tick call:f/1 drop/1 array:x num:1 key/1 elem drop/1 end.)"},
		{"function f(a, b) { b[1] }\n{ f(x, y); f((x), y); f(f(1)) }", "func f(params:sa local#1 num:1 key/1 elem drop/1 end.) rule (var:x array:y tick call:f/2 drop/1 var:x array:y tick call:f/2 drop/1 num:1 tick call:f/1 tick call:f/1 drop/1 end.)"},
		{"function f(a) { }\nfunction g(a) { a[1]; f(a[2]) }\n{ a[1]; f(a[1]); g(a) }", "func f(params:s end.) func g(params:a local num:1 key/1 elem drop/1 local num:2 key/1 elem tick call:f/1 drop/1 end.) rule (array:a num:1 key/1 elem drop/1 array:a num:1 key/1 elem tick call:f/1 drop/1 array:a tick call:g/1 drop/1 end.)"},
		{"function f(a) { g(a) }\nfunction g(b) { b }\n{ a[1] }", "func f(params:s local tick call:g/1 drop/1 end.) func g(params:s local drop/1 end.) rule (array:a num:1 key/1 elem drop/1 end.)"},
		{"function f(NFS, a) { NFS a NF }", "func f(params:ss local local#1 bin:cat var:NF bin:cat drop/1 end.)"},
	})
}

// P13.1: an op's jump, N and Last are told where they are the machine's business alone.
func TestBareOps(t *testing.T) {
	for _, p := range compiled(t, "function f(a, b) { return a[1] b }\n$1 { x += f(a, 2); if (x) print > \"y\"; for (k in a) exit }") {
		for i, o := range p.Ops {
			jumps := slices.Contains([]string{"jump", "iftrue", "iffalse", "each", "next", "exit", "return"}, o.Do)
			last := slices.Contains([]string{"jump", "next", "exit", "return", "end"}, o.Do)
			if jumps && o.Jump < 0 || !jumps && o.Jump != -1 || last != o.Last || (o.Do == "end") != (i == len(p.Ops)-1) {
				t.Errorf("%s %d: %+v", p.Kind, i, o)
			}
		}
	}
}
