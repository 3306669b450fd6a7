package syntax

import "tedder/api"

// expression reads an expression, assignments and all.
func (p *parser) expression() api.Node {
	n := p.alternative()
	if !p.at("=", "+=", "-=", "*=", "/=", "%=", "^=") {
		return n
	}
	if !isPlace(n) {
		return p.fail()
	}
	return node("assign", p.next().Text, n, p.inner(p.expression))
}

// isPlace tells whether something can be put at n.
func isPlace(n api.Node) bool {
	return n.Op == "var" || n.Op == "elem" || n.Op == "field"
}

// alternative reads an expression that ? and : may stand in.
func (p *parser) alternative() api.Node {
	n := p.either()
	if !p.take("?") {
		return n
	}
	p.skipLines()
	then := p.inner(p.expression)
	p.want(":")
	p.skipLines()
	return node("cond", "", n, then, p.inner(p.expression))
}

// either reads what || may join.
func (p *parser) either() api.Node {
	return p.fromLeft(p.both, "||")
}

// both reads what && may join.
func (p *parser) both() api.Node {
	return p.fromLeft(p.member, "&&")
}

// member reads what may be asked for in arrays.
func (p *parser) member() api.Node {
	n := p.matched()
	for p.takeWord("in") {
		n = node("in", p.name(), n)
	}
	return n
}

// matched reads what may be matched.
func (p *parser) matched() api.Node {
	return p.fromLeft(p.compared, "~", "!~")
}

// compared reads one or two of what may be compared.
func (p *parser) compared() api.Node {
	n := p.joined()
	if p.at("<", "<=", "==", "!=", ">=") || p.at(">") && !p.sends {
		return node("bin", p.next().Text, n, p.joined())
	}
	return n
}

// joined reads what may be joined by standing one behind the other.
func (p *parser) joined() api.Node {
	n := p.sum()
	for p.atJoined() {
		n = node("bin", "cat", n, p.sum())
	}
	return n
}

// atJoined tells whether what stands next may be joined to what is ahead of it: no sign may begin it, which would be an op between.
func (p *parser) atJoined() bool {
	switch p.peek().Kind {
	case "num", "str", "ere", "name", "func", "built":
		return true
	}
	return p.at("$", "(", "++", "--")
}

// sum reads what + and - may join.
func (p *parser) sum() api.Node {
	return p.fromLeft(p.product, "+", "-")
}

// product reads what *, / and % may join.
func (p *parser) product() api.Node {
	return p.fromLeft(p.signed, "*", "/", "%")
}

// fromLeft reads what tighter reads, again and again with one of the ops between. Behind && and || a line may end.
func (p *parser) fromLeft(tighter func() api.Node, ops ...string) api.Node {
	n := tighter()
	for p.at(ops...) {
		text := p.next().Text
		if text == "&&" || text == "||" {
			p.skipLines()
		}
		n = node("bin", text, n, tighter())
	}
	return n
}

// signed reads what ! and signs may stand ahead of.
func (p *parser) signed() api.Node {
	if p.at("!", "+", "-") {
		return node("unary", p.next().Text, p.inner(p.signed))
	}
	return p.power()
}

// power reads what may be raised to a power.
func (p *parser) power() api.Node {
	n := p.stepped()
	if !p.take("^") {
		return n
	}
	return node("bin", "^", n, p.inner(p.exponent))
}

// exponent reads what is behind a ^: signs may stand ahead of it, but no !.
func (p *parser) exponent() api.Node {
	if p.at("+", "-") {
		return node("unary", p.next().Text, p.inner(p.exponent))
	}
	return p.power()
}
