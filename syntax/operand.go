package syntax

import "tedder/api"

// stepped reads an operand, with ++ or -- at it.
func (p *parser) stepped() api.Node {
	if p.at("++", "--") {
		return p.stepAhead()
	}
	n := p.operand()
	if isPlace(n) && p.at("++", "--") {
		return node("post", p.next().Text, n)
	}
	return n
}

// stepAhead reads ++ or -- and the place behind it.
func (p *parser) stepAhead() api.Node {
	text := p.next().Text
	n := p.inner(p.operand)
	if !isPlace(n) {
		return p.fail()
	}
	return node("pre", text, n)
}

// operand reads what no op stands in but in parentheses and brackets, or behind a $.
func (p *parser) operand() api.Node {
	switch t := p.next(); t.Kind {
	case "num", "str", "ere":
		return node(t.Kind, t.Text)
	case "name":
		if p.take("[") {
			return node("elem", t.Text, p.closedList("]")...)
		}
		return node("var", t.Text)
	case "func":
		return node("call", t.Text, p.arguments()...)
	case "built":
		return p.built(t.Text)
	case "op":
		switch t.Text {
		case "(":
			return p.parenthesized()
		case "$":
			return p.field()
		}
	}
	return p.fail()
}

// parenthesized reads what is behind a (: one expression, or several that are asked for in an array.
func (p *parser) parenthesized() api.Node {
	l := p.closedList(")")
	if len(l) == 1 {
		return node("group", "", l...)
	}
	p.wantWord("in")
	return node("in", p.name(), l...)
}

// field reads what is behind a $.
func (p *parser) field() api.Node {
	if p.at("++", "--") {
		return node("field", "", p.inner(p.stepAhead))
	}
	return node("field", "", p.inner(p.operand))
}

// built reads what is behind the name of a function of the language.
func (p *parser) built(name string) api.Node {
	if name == "length" && !p.at("(") {
		return node("built", name)
	}
	n := node("built", name, p.arguments()...)
	if !rightBuilt(n) {
		return p.fail()
	}
	return n
}

// arguments reads a list in parentheses, or nothing in them.
func (p *parser) arguments() []api.Node {
	p.want("(")
	if p.take(")") {
		return nil
	}
	return p.closedList(")")
}

// closedList reads a list and the op that closes it. In it a > compares, also in what is printed.
func (p *parser) closedList(closing string) []api.Node {
	outer := p.sends
	p.sends = false
	l := p.list()
	p.sends = outer
	p.want(closing)
	return l
}

// list reads expressions with , between, behind which a line may end.
func (p *parser) list() []api.Node {
	l := []api.Node{p.inner(p.expression)}
	for p.take(",") {
		p.skipLines()
		l = append(l, p.inner(p.expression))
	}
	return l
}
