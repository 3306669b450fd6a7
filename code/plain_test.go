package code

import (
	"slices"
	"strconv"
	"strings"
	"testing"

	"tedder/api"
	"tedder/names"
	"tedder/sample"
	"tedder/syntax"
)

// most is how much is told of what a part does: loops may go on without an end.
const most = 120

// teller: what is done, told line by line, and which way is gone where that hangs on a value. A value is a text here: what made it, of what.
type teller struct {
	lines []string
	ways  []uint64
}

// tell takes up that something is done with values, and gives what that makes.
func (l *teller) tell(do, text string, n int, values ...string) string {
	s := do
	if text != "" {
		s += ":" + text
	}
	if n != 0 {
		s += "#" + strconv.Itoa(n)
	}
	if len(values) > 0 {
		s += "(" + strings.Join(values, " ") + ")"
	}
	if !l.full() {
		l.lines = append(l.lines, s)
	}
	return s
}

// full tells whether enough is told.
func (l *teller) full() bool { return len(l.lines) == most }

// way asks a value whether it is so.
func (l *teller) way(value string) bool {
	yes := l.ways[len(l.lines)]>>40%3 > 0
	l.tell("way", strconv.FormatBool(yes), 0, value)
	return yes
}

// machine does the ops of a part, and gives what is left on the stack.
func (l *teller) machine(ops []api.Op) []string {
	var stack []string
	for i := 0; !l.full(); {
		o := ops[i]
		values := slices.Clone(stack[len(stack)-o.Pop:])
		stack = stack[:len(stack)-o.Pop]
		jumps := o.Jump >= 0
		switch o.Do {
		case "jump":
		case "iftrue", "iffalse":
			jumps = l.way(values[0]) == (o.Do == "iftrue")
		case "each":
			jumps = !l.way(l.tell("each", "", 0, values...))
			stack = append(stack, values...)
		case "end":
			return stack
		case "return", "next", "exit":
			l.tell(o.Do, "", 0)
		case "drop":
			if o.Pop == 1 {
				l.tell("drop", "", 0, values...)
			}
		default:
			if made := l.tell(o.Do, o.Text, o.N, values...); o.Push == 1 {
				stack = append(stack, made)
			}
		}
		if i++; jumps {
			i = o.Jump
		}
	}
	return nil
}

// plain goes through a program's tree as chapter 14 tells what it does.
type plain struct {
	teller
	names  api.Names
	params []string
}

// variable tells of a variable, with & ahead of its place.
func (p *plain) variable(ahead, name string) string {
	if i := slices.Index(p.params, name); i >= 0 {
		return p.tell(ahead+"local", "", i)
	}
	return p.tell(ahead+"var", name, 0)
}

// array tells of an array.
func (p *plain) array(name string) string {
	if slices.Contains(p.params, name) {
		return p.variable("", name)
	}
	return p.tell("array", name, 0)
}

// values does expressions, from the left to the right.
func (p *plain) values(l []api.Node) []string {
	var all []string
	for _, n := range l {
		all = append(all, p.value(n))
	}
	return all
}

// key does what makes an array and a key.
func (p *plain) key(n api.Node) (string, string) {
	array := p.array(n.Text)
	return array, p.tell("key", "", 0, p.values(n.Kids)...)
}

// place does what makes a place.
func (p *plain) place(n api.Node) string {
	switch n.Op {
	case "elem":
		array, key := p.key(n)
		return p.tell("&elem", "", 0, array, key)
	case "field":
		return p.tell("&field", "", 0, p.value(n.Kids[0]))
	}
	return p.variable("&", n.Text)
}

// bare does an expression as of ~.
func (p *plain) bare(n api.Node, ahead, behind string) string {
	if n.Op == "ere" {
		return p.tell("str", ahead+n.Text+behind, 0)
	}
	return p.value(n)
}

// value does an expression.
func (p *plain) value(n api.Node) string {
	if n.Op == "bin" {
		return p.binary(n)
	}
	switch n.Op {
	case "num", "str", "ere":
		return p.tell(n.Op, n.Text, 0)
	case "var":
		return p.variable("", n.Text)
	case "elem", "in":
		array, key := p.key(n)
		return p.tell(n.Op, "", 0, array, key)
	case "field", "unary":
		return p.tell(n.Op, n.Text, 0, p.value(n.Kids[0]))
	case "cond":
		if p.way(p.value(n.Kids[0])) {
			return p.value(n.Kids[1])
		}
		return p.value(n.Kids[2])
	case "assign":
		place := p.place(n.Kids[0])
		return p.tell("assign", n.Text, 0, place, p.value(n.Kids[1]))
	case "pre", "post":
		return p.tell(n.Op, n.Text, 0, p.place(n.Kids[0]))
	case "call":
		return p.call(n)
	case "built":
		return p.built(n)
	}
	return p.value(n.Kids[0])
}

// binary does an op between two expressions.
func (p *plain) binary(n api.Node) string {
	first := p.value(n.Kids[0])
	switch n.Text {
	case "&&":
		if p.way(first) && p.way(p.value(n.Kids[1])) {
			return p.tell("num", "1", 0)
		}
		return p.tell("num", "0", 0)
	case "||":
		if p.way(first) || p.way(p.value(n.Kids[1])) {
			return p.tell("num", "1", 0)
		}
		return p.tell("num", "0", 0)
	case "~", "!~":
		return p.tell("bin", n.Text, 0, first, p.bare(n.Kids[1], "", ""))
	}
	return p.tell("bin", n.Text, 0, first, p.value(n.Kids[1]))
}

// call does a call of a function of the program.
func (p *plain) call(n api.Node) string {
	var values []string
	for _, kid := range n.Kids {
		if kid.Op == "var" && slices.Contains(p.names.Arrays, kid.Text) && !slices.Contains(p.params, kid.Text) {
			values = append(values, p.array(kid.Text))
		} else {
			values = append(values, p.value(kid))
		}
	}
	p.tell("tick", "", 0)
	return p.tell("call", n.Text, 0, values...)
}

// built does a call of a function of the language.
func (p *plain) built(n api.Node) string {
	var values []string
	switch n.Text {
	case "split":
		values = []string{p.value(n.Kids[0]), p.array(n.Kids[1].Text)}
		if len(n.Kids) == 3 {
			values = append(values, p.bare(n.Kids[2], "(", ")"))
		}
	case "sub", "gsub":
		values = []string{p.bare(n.Kids[0], "", ""), p.value(n.Kids[1])}
		if len(n.Kids) == 3 {
			values = append(values, p.place(n.Kids[2]))
		} else {
			values = append(values, p.tell("&field", "", 0, p.tell("num", "0", 0)))
		}
	case "match":
		values = []string{p.value(n.Kids[0]), p.bare(n.Kids[1], "", "")}
	default:
		values = p.values(n.Kids)
		if n.Text == "length" && len(values) == 0 {
			values = []string{p.tell("field", "", 0, p.tell("num", "0", 0))}
		}
	}
	return p.tell("built", n.Text, 0, values...)
}

// statement does one, and gives what it does to those around: break, continue, leave, or nothing.
func (p *plain) statement(n api.Node) string {
	switch n.Op {
	case "block":
		for _, kid := range n.Kids {
			if how := p.statement(kid); how != "" {
				return how
			}
		}
	case "expr":
		p.tell("drop", "", 0, p.value(n.Kids[0]))
	case "print", "printf":
		count := len(n.Kids)
		if n.Text != "" {
			count--
		}
		p.tell(n.Op, n.Text, count, p.values(n.Kids)...)
	case "delete":
		array, key := p.key(n)
		p.tell("delete", "", 0, array, key)
	case "if":
		if p.way(p.value(n.Kids[0])) {
			return p.statement(n.Kids[1])
		} else if len(n.Kids) == 3 {
			return p.statement(n.Kids[2])
		}
	case "while", "do", "for", "forin":
		return p.loop(n)
	case "break", "continue":
		return n.Op
	case "next", "exit", "return":
		for _, value := range p.values(n.Kids) {
			p.tell(map[string]string{"exit": "status", "return": "result"}[n.Op], "", 0, value)
		}
		p.tell(n.Op, "", 0)
		return "leave"
	}
	return ""
}

// loop does a loop.
func (p *plain) loop(n api.Node) string {
	var place, keys string
	switch n.Op {
	case "for":
		if how := p.statement(n.Kids[0]); how != "" {
			return how
		}
	case "forin":
		place = p.variable("&", n.Text)
		keys = p.tell("keys", "", 0, p.array(n.Kids[0].Text))
	}
	for first := true; !p.full(); first = false {
		statement := n.Kids[len(n.Kids)-1]
		goesOn := true
		switch n.Op {
		case "while":
			goesOn = p.way(p.value(n.Kids[0]))
		case "do":
			statement = n.Kids[0]
			goesOn = first || p.way(p.value(n.Kids[1]))
		case "for":
			if how := p.last(n, first); how != "" {
				return how
			}
			goesOn = n.Kids[1].Op == "none" || p.way(p.value(n.Kids[1]))
		case "forin":
			goesOn = p.way(p.tell("each", "", 0, place, keys))
		}
		if !goesOn {
			break
		}
		p.tell("tick", "", 0)
		how := p.statement(statement)
		if how == "leave" {
			return how
		}
		if how == "break" {
			break
		}
	}
	return ""
}

// last does a for's last statement, but not ahead of the first time.
func (p *plain) last(n api.Node, first bool) string {
	if first {
		return ""
	}
	return p.statement(n.Kids[2])
}

// item tells what each part of an item does.
func (p *plain) item(n api.Node, ways []uint64) []string {
	var all []string
	p.params = nil
	kids := n.Kids
	if n.Op == "func" {
		for _, param := range n.Kids[0].Kids {
			p.params = append(p.params, param.Text)
		}
		kids = kids[1:]
	}
	for i, kid := range kids {
		p.teller = teller{ways: ways}
		pattern := (n.Op == "rule" || n.Op == "range") && i < len(kids)-1
		switch {
		case pattern && kid.Op == "none":
			continue
		case pattern:
			p.value(kid)
		case kid.Op == "none":
			p.tell("line", "", 0)
		case n.Op == "func":
			letters := ""
			for _, name := range p.params {
				if slices.Contains(p.names.Params, n.Text+"."+name) {
					letters += "a"
				} else {
					letters += "s"
				}
			}
			p.tell("params", letters, 0)
			p.statement(kid)
		default:
			p.statement(kid)
		}
		all = append(all, strings.Join(p.lines, "\n"))
	}
	return all
}

// checkDone holds what the code of a program does against what its tree says, and tells whether the program is one.
func checkDone(t *testing.T, s string, ways []uint64) bool {
	t.Helper()
	items, ok := syntax.Parse(s)
	n, right := names.Resolve(items)
	if !ok || !right {
		return false
	}
	p := plain{names: n}
	var want []string
	for _, item := range items {
		want = append(want, p.item(item, ways)...)
	}
	parts := Compile(items, n)
	if !Check(parts) || len(parts) != len(want) {
		t.Fatalf("%q: %d parts, not %d, or they aren't sound", s, len(parts), len(want))
	}
	for i, part := range parts {
		l := teller{ways: ways}
		left := l.machine(part.Ops)
		if got := strings.Join(l.lines, "\n"); got != want[i] || !l.full() && len(left) != one(part.Kind) {
			t.Fatalf("%q: %s: %d left\n%s\n\nnot\n\n%s", s, part.Kind, len(left), got, want[i])
		}
	}
	return true
}

// P13.1: what is compiled of a program is its code: it is sound, and does, in the same order, with the same values, what the tree says, whichever ways are gone.
func TestPrograms(t *testing.T) {
	m := sample.Maker{Bits: sample.Bits(4000000)}
	programs := 0
	for len(m.Bits) > 20000 {
		s := m.Program()
		for range 3 {
			if checkDone(t, s, m.Bits[:most+1]) {
				programs++
			}
			m.Bits = m.Bits[most:]
		}
	}
	if programs < 1000 {
		t.Errorf("%d programs", programs)
	}
}
