package names

import (
	"slices"
	"strings"
	"testing"

	"tedder/api"
	"tedder/sample"
)

// seen: a node of a program, where it stands: the function, the node around it, and as which of its Kids.
type seen struct {
	function string
	api.Node
	around api.Node
	kid    int
}

// plain: what the chapter's words tell of a program's names. A variable stands here as function:name.
type plain struct {
	functions       []api.Node
	nodes           []seen
	arrays, scalars map[string]bool
}

// look takes up all nodes of a tree.
func (p *plain) look(s seen) {
	if s.Op == "params" {
		return
	}
	p.nodes = append(p.nodes, s)
	for i, kid := range s.Kids {
		p.look(seen{s.function, kid, s.Node, i})
	}
}

// params gives the parameters of a function, and false, if there is none.
func (p *plain) params(function string) ([]string, bool) {
	for _, f := range p.functions {
		if f.Text == function {
			var l []string
			for _, v := range f.Kids[0].Kids {
				l = append(l, v.Text)
			}
			return l, true
		}
	}
	return nil, false
}

// variable gives what a name is that stands in a function, or, without one, elsewhere.
func (p *plain) variable(function, name string) string {
	if params, ok := p.params(function); ok && slices.Contains(params, name) {
		return function + ":" + name
	}
	return ":" + name
}

// arrayPlace tells whether a node is the var of forin's first Kid, or split's second Kid.
func (s seen) arrayPlace() bool {
	return s.Op == "var" && (s.around.Op == "forin" && s.kid == 0 || s.around.Op == "built" && s.around.Text == "split" && s.kid == 1)
}

// step tells of one node what it says of variables.
func (p *plain) step(s seen) {
	v := p.variable(s.function, s.Text)
	switch {
	case s.Op == "elem" || s.Op == "in" || s.Op == "delete" || s.arrayPlace():
		p.arrays[v] = true
	case s.Op == "forin" || s.Op == "var" && s.around.Op != "call":
		p.scalars[v] = true
	}
	if strings.Contains(specialNames, " "+s.Text+" ") && strings.HasPrefix(v, ":") {
		p.scalars[v] = true
	}
	if s.around.Op != "call" {
		return
	}
	params, _ := p.params(s.around.Text)
	if s.kid >= len(params) {
		return
	}
	param := s.around.Text + ":" + params[s.kid]
	if s.Op != "var" {
		p.scalars[param] = true
		return
	}
	for _, kind := range []map[string]bool{p.arrays, p.scalars} {
		if kind[v] || kind[param] {
			kind[v], kind[param] = true, true
		}
	}
}

const specialNames = " NF NR FNR FS OFS ORS RS FILENAME SUBSEP CONVFMT OFMT RSTART RLENGTH "

// right tells whether functions and parameters are called as they may be, and each call is as it may be.
func (p *plain) right(variables []string) bool {
	for i, f := range p.functions {
		for _, g := range p.functions[:i] {
			if f.Text == g.Text {
				return false
			}
		}
		if strings.Contains(specialNames, " "+f.Text+" ") || slices.Contains(variables, ":"+f.Text) {
			return false
		}
		params, _ := p.params(f.Text)
		for i, name := range params {
			if _, ok := p.params(name); ok || slices.Contains(params[:i], name) || strings.Contains(specialNames, " "+name+" ") {
				return false
			}
		}
	}
	for _, s := range p.nodes {
		if params, ok := p.params(s.Text); s.Op == "call" && (!ok || len(params) < len(s.Kids)) {
			return false
		}
	}
	for _, v := range variables {
		if p.arrays[v] && p.scalars[v] {
			return false
		}
	}
	return true
}

// plainly gives what the chapter's words ask for.
func plainly(l []api.Node) (api.Names, bool) {
	p := plain{arrays: map[string]bool{}, scalars: map[string]bool{}}
	for _, item := range l {
		if item.Op == "func" {
			p.functions = append(p.functions, item)
			p.look(seen{item.Text, item.Kids[1], item, 1})
		} else {
			p.look(seen{"", item, api.Node{}, 0})
		}
	}
	for size := -1; size != len(p.arrays)+len(p.scalars); {
		size = len(p.arrays) + len(p.scalars)
		for _, s := range p.nodes {
			p.step(s)
		}
	}
	var variables []string
	for _, s := range p.nodes {
		switch s.Op {
		case "var", "elem", "in", "delete", "forin":
			variables = append(variables, p.variable(s.function, s.Text))
		}
	}
	for _, f := range p.functions {
		params, _ := p.params(f.Text)
		for _, name := range params {
			variables = append(variables, f.Text+":"+name)
		}
	}
	slices.Sort(variables)
	if !p.right(variables) {
		return api.Names{}, false
	}
	return p.told(slices.Compact(variables)), true
}

// told gives the names, of the variables in their order.
func (p *plain) told(variables []string) api.Names {
	var n api.Names
	for _, f := range p.functions {
		n.Funcs = append(n.Funcs, f.Text)
	}
	for _, v := range variables {
		function, name, _ := strings.Cut(v, ":")
		if function == "" && p.arrays[v] {
			n.Arrays = append(n.Arrays, name)
		} else if function == "" {
			n.Scalars = append(n.Scalars, name)
		} else if p.arrays[v] {
			n.Params = append(n.Params, function+"."+name)
		}
	}
	slices.Sort(n.Funcs)
	slices.Sort(n.Params)
	return n
}

// checkPlain holds Resolve against the chapter's words, and tells whether the names are right.
func checkPlain(t *testing.T, s string) bool {
	t.Helper()
	l := parsed(t, s)
	got, ok := Resolve(l)
	want, right := plainly(l)
	if ok != right || shown(got) != shown(want) {
		t.Fatalf("%q: %s, %v, not %s, %v", s, shown(got), ok, shown(want), right)
	}
	return right
}

// P7.1: all programs of two functions and a rule with a statement in each, out of some.
func TestAllSmall(t *testing.T) {
	statements := strings.Split("|a|a[1]|b = a|f(a)|f(b)|f(1)|g(a, b)|g(b, a)|g(b)|g(f(a), c)|split(a, b)|b in c|for (a in b) ;|f(c) g(c, c)|f((b))", "|")
	var right, all int
	for _, first := range statements {
		for _, second := range statements {
			for _, third := range statements {
				all++
				if checkPlain(t, "function f(a) { "+first+" }\nfunction g(a, b) { "+second+" }\n{ "+third+" }") {
					right++
				}
			}
		}
	}
	if right < all/10 || right > all-all/10 {
		t.Errorf("%d of %d are right", right, all)
	}
}

// maker makes programs out of bits.
type maker struct {
	bits []uint64
}

// pick gives one of the words.
func (m *maker) pick(words ...string) string {
	bits := m.bits[0]
	m.bits = m.bits[1:]
	return words[bits>>33%uint64(len(words))]
}

// expression makes one, at most so many deep.
func (m *maker) expression(deep int) string {
	name := m.pick("a", "b", "c", "d", "e", "x", "y", "z", "NR", "a", "b")
	if deep == 0 {
		return name
	}
	switch m.pick("name", "name", "name", "elem", "call", "call", "call", "group", "in", "bin", "built", "split", "num") {
	case "elem":
		return m.pick("p", "q", "r", "x", "y") + "[" + m.expression(deep-1) + "]"
	case "call":
		return m.call(deep)
	case "group":
		return "(" + m.expression(deep-1) + ")"
	case "in":
		return "((" + m.expression(deep-1) + ", 1) in " + m.pick("p", "q", "r", "z") + ")"
	case "bin":
		return "(" + m.expression(deep-1) + m.pick(" ", " + ", " ~ ", " && ") + m.expression(deep-1) + ")"
	case "built":
		return "tolower(" + m.expression(deep-1) + ")"
	case "split":
		return "split(" + m.expression(deep-1) + ", " + m.pick("p", "q", "r", "y") + ")"
	case "num":
		return "1"
	}
	return name
}

// call makes one of a function, mostly with few arguments enough.
func (m *maker) call(deep int) string {
	lone := []string{"a", "b", "c", "d", "e", "p", "q", "r", "x", "y", "z"}
	switch m.pick("f", "f", "g", "g", "g", "h", "h") {
	case "f":
		return "f(" + m.pick(lone...) + ")"
	case "g":
		return "g(" + m.pick(lone...) + ", " + m.pick(append(lone, m.expression(deep-1))...) + ")"
	}
	return "h(" + m.pick(lone...) + ", " + m.pick("p", "q") + ", " + m.expression(deep-1) + ")"
}

// statement makes one.
func (m *maker) statement() string {
	switch m.pick("expression", "expression", "expression", "forin", "delete", "if", "print") {
	case "forin":
		return "for (" + m.pick("a", "b", "k") + " in " + m.pick("p", "q", "r") + ") " + m.expression(1)
	case "delete":
		return "delete " + m.pick("p", "q", "r") + "[" + m.expression(1) + "]"
	case "if":
		return "if (" + m.expression(1) + ") " + m.expression(2) + "; else " + m.expression(1)
	case "print":
		return "print " + m.expression(1) + ", " + m.expression(1) + m.pick("", " > a", " > NF")
	}
	return m.expression(3)
}

// program makes one of three functions, and rules, here and there with a name that can't be.
func (m *maker) program() string {
	s := m.statement() + "; " + m.pick("x", "y[1]", "b", "p[2]")
	f := "function " + m.pick("f", "f", "f", "f", "f", "f", "f", "f", "g", "x", "NF") + "(" + m.pick("a", "p", "x") + ") { " + m.statement() + " }\n"
	g := "function g(" + m.pick("a, b", "p, q", "x, y", "b, p", "b, p", "a, x", "a, a", "a, FS", "a, h") + ") { " + m.statement() + "; " + m.pick(s, "b") + " }\n"
	h := "function h(" + m.pick("c, p, a", "q, r, z", "a, b") + ") { " + m.statement() + " }\n"
	return m.pick(f+g+h, h+f+g) + "{ " + m.statement() + " }\nEND { " + m.statement() + " }\n"
}

// P7.1: programs of all kinds.
func TestMany(t *testing.T) {
	bits := sample.Bits(900000)
	var right, all int
	for len(bits) > 1000 {
		m := maker{bits: bits[:1000]}
		s := m.program()
		bits = bits[1000-len(m.bits):]
		all++
		if checkPlain(t, s) {
			right++
		}
	}
	if right < all/40 {
		t.Errorf("%d of %d are right", right, all)
	}
}
