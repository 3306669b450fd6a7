package effect

import (
	"regexp"
	"slices"
	"strings"
	"testing"

	"tedder/api"
	"tedder/engine"
	"tedder/names"
	"tedder/sample"
	"tedder/syntax"
)

// seen: a node of a rule, the one around it, and as which of its Kids it stands there.
type seen struct {
	api.Node
	around *seen
	place  int
	kids   []*seen
}

// look gives a node and all that is in it as seen ones, and takes them up in l.
func look(n api.Node, around *seen, place int, l *[]*seen) *seen {
	s := &seen{Node: n, around: around, place: place}
	*l = append(*l, s)
	for i, kid := range n.Kids {
		s.kids = append(s.kids, look(kid, s, i, l))
	}
	return s
}

// written gives a tree as a text: Op:Text(Kids).
func written(n api.Node) string {
	var kids []string
	for _, kid := range n.Kids {
		kids = append(kids, written(kid))
	}
	return n.Op + ":" + n.Text + "(" + strings.Join(kids, " ") + ")"
}

// is tells whether a node's Op and Text are among these words.
func (s *seen) is(words string) bool {
	return slices.Contains(strings.Fields(words), s.Op+":"+s.Text)
}

// statementStands tells whether a statement stands here.
func (s *seen) statementStands() bool {
	switch s.around.Op {
	case "rule":
		return s.place == 1
	case "block":
		return s.around.statementStands()
	case "if":
		return s.place > 0 && s.around.extreme() == "" && s.around.statementStands()
	case "while":
		return s.place == 1 && s.around.statementStands()
	case "do":
		return s.place == 0 && s.around.statementStands()
	case "for":
		return s.place != 1 && s.around.statementStands()
	}
	return false
}

// A pure expression has none of these in it.
var changing = regexp.MustCompile(`(^|[ (])(assign:|pre:|post:|built:g?sub\()`)

// makesNumber tells whether an expression is numeric.
func (s *seen) makesNumber() bool {
	switch s.Op {
	case "num", "ere", "unary":
		return true
	case "bin":
		return s.Text != "cat"
	case "var", "built":
		return s.is("var:NF var:NR var:FNR built:length built:int built:index")
	case "cond":
		return s.kids[1].makesNumber() && s.kids[2].makesNumber()
	}
	return s.Op == "group" && s.kids[0].makesNumber()
}

// inGroups gives what is in a node's groups.
func (s *seen) inGroups() *seen {
	for s.Op == "group" {
		s = s.kids[0]
	}
	return s
}

// extreme gives name:class of the update that an if is; empty, if it is none. The if is written once more out of an expression and a variable in it.
func (s *seen) extreme() string {
	compared := s.kids[0].inGroups()
	if s.Op != "if" || len(compared.kids) != 2 || compared.Op != "bin" {
		return ""
	}
	e, v := compared.kids[0], compared.kids[1]
	if v.Op != "var" || strings.Contains(specialNames, " "+v.Text+" ") || changing.MatchString(written(e.Node)) || e.inGroups().Op != "field" && !e.makesNumber() {
		return ""
	}
	put := "expr:(assign:=(" + written(v.Node) + " " + written(e.Node) + "))"
	for op, class := range map[string]string{">": "max", "<": "min"} {
		kept := "bin:" + op + "(" + written(e.Node) + " " + written(v.Node) + ")"
		if written(compared.Node) != kept {
			continue
		}
		for _, second := range []string{put, "block:(" + put + ")"} {
			if written(s.Node) == "if:("+written(s.kids[0].Node)+" "+second+")" {
				return v.Text + ":" + class
			}
		}
	}
	return ""
}

const specialNames = " NF NR FNR FS OFS ORS RS FILENAME SUBSEP CONVFMT OFMT RSTART RLENGTH "

// update gives name:class of the update that a node is; empty, if it is none.
func (s *seen) update() string {
	if s.around == nil || !s.statementStands() {
		return ""
	}
	if s.Op == "if" {
		return s.extreme()
	}
	if s.Op != "expr" || !s.kids[0].is("assign:= assign:+= assign:-= pre:++ pre:-- post:++ post:--") {
		return ""
	}
	change := s.kids[0]
	place := change.kids[0]
	switch {
	case place.Op == "var" && !strings.Contains(specialNames, " "+place.Text+" "):
		if change.is("assign:=") {
			return place.Text + ":last"
		}
		return place.Text + ":sum"
	case place.Op == "elem" && !change.is("assign:="):
		for _, e := range append(place.kids, change.kids[1:]...) {
			if changing.MatchString(written(e.Node)) {
				return ""
			}
		}
		return place.Text + ":sums"
	}
	return ""
}

// changedBy gives the update by whose change the place is changed that a node is.
func (s *seen) changedBy() string {
	change := s.around
	if change == nil || s.place != 0 || !strings.Contains("assign pre post", change.Op) {
		return ""
	}
	for outer := change.around; outer != nil && strings.Contains("expr block if", outer.Op); outer = outer.around {
		if u := outer.update(); u != "" {
			return u
		}
	}
	return ""
}

// comparedBy gives the update in whose comparison a var node is the variable.
func (s *seen) comparedBy() string {
	if s.around == nil || s.around.Op != "bin" || s.place != 1 {
		return ""
	}
	outer := s.around.around
	for outer.Op == "group" {
		outer = outer.around
	}
	if outer.Op != "if" {
		return ""
	}
	return outer.update()
}

// standsAgainst tells whether a node of a rule stands against the program, with the updates that there are.
func (s *seen) standsAgainst(updated map[string]string) bool {
	switch s.Op {
	case "call", "exit", "delete", "forin", "in":
		return true
	case "print", "printf":
		return s.Text != ""
	case "built":
		return s.is("built:split built:match") || s.is("built:sub built:gsub") && len(s.kids) == 3 && s.kids[2].Op != "field"
	case "assign", "pre", "post":
		return s.kids[0].Op != "field" && !s.kids[0].is("var:NF") && s.kids[0].changedBy() == ""
	case "elem":
		return s.changedBy() == ""
	case "var":
		class, ok := updated[s.Text]
		return ok && s.changedBy() != s.Text+":"+class && s.comparedBy() != s.Text+":"+class
	}
	return false
}

// plainly gives what the chapter's words ask for, as shown gives it.
func plainly(items []api.Node) string {
	var all []*seen
	updated := map[string]string{}
	for _, item := range items {
		if item.Op == "range" {
			return "refused"
		}
		if item.Op == "rule" {
			look(item, nil, 0, &all)
		}
	}
	for _, s := range all {
		name, class, ok := strings.Cut(s.update(), ":")
		if known, twice := updated[name]; twice && known != class {
			return "refused"
		}
		if ok {
			updated[name] = class
		}
	}
	var told []string
	for name, class := range updated {
		told = append(told, name+":"+class)
	}
	slices.SortFunc(told, func(a, b string) int {
		a, _, _ = strings.Cut(a, ":")
		b, _, _ = strings.Cut(b, ":")
		return strings.Compare(a, b)
	})
	if slices.ContainsFunc(all, func(s *seen) bool { return s.standsAgainst(updated) }) {
		return "refused"
	}
	return strings.Join(told, " ")
}

// checkPlain holds Find against the chapter's words, and tells whether the program is accepted.
func checkPlain(t *testing.T, s string) bool {
	t.Helper()
	l := parsed(t, s)
	got, want := shown(Find(l)), plainly(l)
	if got != want {
		t.Fatalf("%q: %s, not %s", s, got, want)
	}
	return want != "refused"
}

// P17.1: all rules of two statements out of some, around one another in some ways.
func TestAllSmall(t *testing.T) {
	statements := strings.Split("|v++|v -= w|v = w|w = 1|w = w|if (1 > v) v = 1|if (1 < v) { v = 1 }|if (w + 1 > v) v = w + 1|if ($v > w) w = $v|if ($1 < w) w = $1|a[1]++|a[v] -= $1|a[1] += w|a[$w++]--|print v|print $1 > w|print a[1]|$1 = v|NF--|NR++|sub(/a/, v)|sub(/a/, 1, v)|sub(/a/, 1, $w)|exit|next|f(v)|(1 in a)|delete a[1]|for (v in a) ;|w += match(v, 1)|if (v) w++", "|")
	accepted, all := 0, 0
	for _, first := range statements {
		for _, second := range statements {
			for _, around := range []string{"{ 1; 2 }", "{ 1 }\n$1 { 2 }", "{ if ($1) { 1 } else { 2 } }", "{ while ($1) { 1 } do { 2 } while ($1) }", "BEGIN { 2 }\n{ 1 }", "{ for (;;) { { 1 } { 2 } } }"} {
				around = strings.NewReplacer("{ 1", "{ "+first, "{ 2", "{ "+second, "; 2", "; "+second).Replace(around)
				if strings.HasPrefix(around, "BEGIN") && strings.Contains(second, "next") {
					continue
				}
				all++
				if checkPlain(t, around+"\nfunction f(x) { }") {
					accepted++
				}
			}
		}
	}
	if accepted < all/10 || accepted > all/2 {
		t.Errorf("%d of %d are accepted", accepted, all)
	}
}

// maker makes programs of which many are accepted.
type maker struct {
	sample.Maker
}

// odd tells, once in so many times, to make what stands against a program.
func (m *maker) odd(seldom int) bool {
	bits := m.Bits[0]
	m.Bits = m.Bits[1:]
	return bits>>33%uint64(seldom) == 0
}

// leaf gives an expression without others in it.
func (m *maker) leaf() string {
	if m.odd(50) {
		return m.Pick("s1", "x1", "n1", "l1", "a[1]", "f(1)", "(1 in a)", "match($1, 1)", "split($1, a)", "a[$1]++", "s2++", "(l1 = 1)", "sub(/a/, 1, x)")
	}
	return m.Pick("$1", "$1", "$2", "$NF", "$0", "NR", "NF", "FNR", "1", "2", "10", `"a"`, `"3"`, "x", "y", "(/a/)", "length", "OFS", "FILENAME", "RLENGTH")
}

// expression gives one, at most so many deep.
func (m *maker) expression(deep int) string {
	if deep == 0 {
		return m.leaf()
	}
	deep--
	first, second := m.expression(deep), m.expression(deep)
	switch m.Pick("leaf", "leaf", "leaf", "bin", "bin", "group", "unary", "cond", "field", "put", "step", "sub", "built") {
	case "bin":
		return "(" + first + m.Pick(" ", " + ", " - ", " * ", " / ", " % ", " < ", " > ", " == ", " ~ ", " && ", " || ") + second + ")"
	case "group":
		return "(" + first + ")"
	case "unary":
		return m.Pick("(-", "(+", "(!") + first + ")"
	case "cond":
		return "(" + first + " ? " + second + " : " + m.expression(deep) + ")"
	case "field":
		return "$(" + first + ")"
	case "put":
		return "(" + m.Pick("$1", "$2", "$0", "NF", "$(x + 1)") + m.Pick(" = ", " += ", " *= ") + first + ")"
	case "step":
		return "(" + m.Pick("$1++", "--$2", "NF--") + ")"
	case "sub":
		return m.Pick("sub", "gsub") + "(" + m.Pick("/a/", first) + ", " + second + m.Pick("", ", $1", ", $(x + 2)") + ")"
	case "built":
		return m.Pick("length(", "int(", "tolower(", "sprintf(\"%s\", ", "index($1, ", "substr($0, ") + first + ")"
	}
	return m.leaf()
}

// update gives one, of a variable whose name mostly tells its class.
func (m *maker) update() string {
	name := m.Pick("s1", "s2", "x1", "n1", "l1", "a", "b")
	if m.odd(100) {
		name = m.Pick("v1", "x1", "s1", "l1", "NF", "NR")
	}
	e := m.expression(2)
	class := name[:1]
	if class != "a" && class != "b" && m.odd(200) {
		class = m.Pick("s", "x", "n", "l")
	}
	switch class {
	case "s":
		return m.Pick(name+" += "+e, name+" -= "+e, name+"++", "--"+name)
	case "x", "n":
		compared := map[string]string{"x": " > ", "n": " < "}[class]
		if m.odd(100) {
			compared = m.Pick(" < ", " > ", " >= ")
		}
		e = m.Pick("$1", "$2", "NR", "length($0)", "-$1", "($1 % 3)", "$NF", e, e)
		if m.odd(100) {
			return "if (" + e + compared + name + ") " + name + " = " + m.expression(1)
		}
		return m.Pick("if ("+e+compared+name+") "+name+" = "+e, "if (("+e+compared+name+")) { "+name+" = "+e+" }")
	case "a", "b":
		e = m.Pick("1", "$1", "NR", "x", e)
		place := name + "[" + m.Pick("$1", "$2", "NR % 3, x", e) + "]"
		return m.Pick(place+" += "+e, place+" -= "+e, place+"++", "--"+place)
	}
	return name + " = " + e
}

// statement gives one, at most so many deep.
func (m *maker) statement(deep int) string {
	if m.odd(25) {
		return m.Pick("exit", "delete a[1]", "for (k in a) ;", "print > \"f\"", "print 1 >> $1", "FS = 2", "f(1)", "(s1++)", "x1 = 2", "a[1] = 2", "print s1")
	}
	what := m.Pick("print", "expression", "update", "update", "update", "block", "if", "while", "do", "for")
	if deep == 0 {
		what = m.Pick("print", "expression", "update", "update", "update", "next")
	}
	deep--
	switch what {
	case "print":
		return m.Pick("print", "print "+m.expression(2), "print "+m.expression(1)+", "+m.expression(1), `printf "%s;", `+m.expression(2))
	case "expression":
		return m.expression(2)
	case "block":
		return "{ " + m.statement(deep) + "; " + m.statement(deep) + " }"
	case "if":
		return "if (" + m.expression(1) + ") { " + m.statement(deep) + " }" + m.Pick("", " else "+m.statement(deep))
	case "while":
		return "while (" + m.Pick("$1-- > 0", "NF-- > 1", m.expression(1)) + ") " + m.statement(deep)
	case "do":
		return "do { " + m.statement(deep) + " } while (" + m.Pick("$1-- > 0", "NF-- > 1", m.expression(1)) + ")"
	case "for":
		return "for (" + m.Pick("", "s1++", "$3 = 0", "l1 = 2") + "; $3++ < 3; " + m.Pick("", "s2 += $1", "$2 = 1") + ") " + m.statement(deep)
	case "next":
		return m.Pick("next", "print", "s1++")
	}
	return m.update()
}

// program gives one of rules, and what there may be around them.
func (m *maker) program() string {
	s := "{ " + m.statement(2) + "\n" + m.statement(1) + " }\n" + m.Pick("", m.expression(2)+"\n", m.expression(1)+" { "+m.statement(1)+"\n"+m.statement(0)+" }\n")
	if m.odd(30) {
		s += "$1, $2\n"
	}
	return s + "END { print s1, x1, a[1]; a[2] = s1; delete b[1]; f(a[1]) }\nfunction f(p) { s1 = p; return z }\nBEGIN { x = 2; y = \"b\" }\n"
}

// P17.1: made-up programs.
func TestMany(t *testing.T) {
	m := maker{Maker: sample.Maker{Bits: sample.Bits(2000000)}}
	accepted, all := 0, 0
	classes := map[string]int{}
	for len(m.Bits) > 5000 {
		s := m.program()
		all++
		if checkPlain(t, s) {
			accepted++
			l, _ := Find(parsed(t, s))
			for _, u := range l {
				classes[u.Class]++
			}
		}
	}
	t.Log(accepted, all, classes)
	if accepted < all/5 || accepted > all-all/5 || len(classes) != 5 {
		t.Errorf("%d of %d are accepted, %v", accepted, all, classes)
	}
	for _, count := range classes {
		if count < all/100 {
			t.Errorf("of %d programs there are updates %v", all, classes)
		}
	}
}

// run gives a run of a program in which BEGIN is done.
func run(t *testing.T, items []api.Node) *engine.Engine {
	t.Helper()
	e, ok := engine.New(items, api.Limits{Ticks: 30, Depth: 3, Length: 200})
	if !ok {
		t.Fatal("no run")
	}
	e.Begin()
	return e
}

// checkAlone tells that what a record prints, and how its phase ends, hangs on no record ahead of it but by how many there are, and that nothing is changed behind it but the updates' variables.
func checkAlone(t *testing.T, source string, updates []api.Update) {
	t.Helper()
	items, _ := syntax.Parse(source)
	whole, begun := run(t, items), run(t, items)
	known, _ := names.Resolve(items)
	for i, line := range []string{"3 a", "a 2 b 7", "", "10", "-2 aa 1", "7 7"} {
		printed := len(whole.Out())
		alone := run(t, items)
		alone.Set("NR", api.Val{Kind: "num", Num: float64(i)})
		alone.Set("FNR", api.Val{Kind: "num", Num: float64(i)})
		ahead := len(alone.Out())
		got, want := whole.Record(line), alone.Record(line)
		if got != want || whole.Out()[printed:] != alone.Out()[ahead:] || len(whole.Files()) > 0 {
			t.Fatalf("%s\nover %q: %v, %q, not %v, %q", source, line, got, whole.Out()[printed:], want, alone.Out()[ahead:])
		}
		if got.Kind != "" {
			return
		}
	}
	changes := func(name string) bool {
		return strings.Contains(" NR FNR NF ", " "+name+" ") || slices.ContainsFunc(updates, func(u api.Update) bool { return u.Name == name })
	}
	for _, name := range known.Scalars {
		if !changes(name) && whole.Get(name) != begun.Get(name) {
			t.Errorf("%s\n%s is %v", source, name, whole.Get(name))
		}
	}
	for _, name := range known.Arrays {
		if !changes(name) && !slices.Equal(whole.Keys(name), begun.Keys(name)) {
			t.Errorf("%s\n%s has the keys %q", source, name, whole.Keys(name))
		}
	}
}

// P17.1: in an accepted program records hang on nothing that others change, and change nothing but the updates' variables.
func TestRecordsAlone(t *testing.T) {
	m := maker{Maker: sample.Maker{Bits: sample.Bits(1000000)}}
	accepted := 0
	for len(m.Bits) > 5000 {
		s := m.program()
		if l, ok := Find(parsed(t, s)); ok {
			checkAlone(t, s, l)
			accepted++
		}
	}
	if accepted < 100 {
		t.Errorf("%d programs", accepted)
	}
}
