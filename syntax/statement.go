package syntax

import "tedder/api"

// block reads statements in braces.
func (p *parser) block() api.Node {
	var statements []api.Node
	p.want("{")
	p.skipEnds()
	for !p.failed && !p.take("}") {
		statements = append(statements, p.inner(p.statement))
		p.skipEnds()
	}
	return node("block", "", statements...)
}

// statement reads one statement, without the ends behind it.
func (p *parser) statement() api.Node {
	switch p.peek() {
	case op("{"):
		return p.block()
	case op(";"):
		p.next()
		return none()
	case word("if"):
		return p.choice()
	case word("while"):
		p.next()
		return node("while", "", p.condition(), p.loopStatement())
	case word("for"):
		return p.forLoop()
	}
	return p.endedSimple()
}

// endedSimple reads a simple statement that has its end, or a }, behind it.
func (p *parser) endedSimple() api.Node {
	var n api.Node
	if p.takeWord("do") {
		n = p.doLoop()
	} else {
		n = p.simple()
	}
	if !p.atEnd() && !p.at("}") {
		p.fail()
	}
	return n
}

// condition reads an expression in parentheses, which are no node.
func (p *parser) condition() api.Node {
	p.want("(")
	n := p.inner(p.expression)
	p.want(")")
	return n
}

// choice reads an if, with the else that belongs to it.
func (p *parser) choice() api.Node {
	p.next()
	condition := p.condition()
	p.skipLines()
	then := p.inner(p.statement)
	if !p.takeElse() {
		return node("if", "", condition, then)
	}
	p.skipLines()
	return node("if", "", condition, then, p.inner(p.statement))
}

// takeElse reads an else and the ends ahead of it, and tells whether there is one; without one it reads nothing.
func (p *parser) takeElse() bool {
	start := p.rest
	p.skipEnds()
	if p.takeWord("else") {
		return true
	}
	p.rest = start
	return false
}

// loopStatement reads a loop's statement.
func (p *parser) loopStatement() api.Node {
	p.skipLines()
	p.loops++
	n := p.inner(p.statement)
	p.loops--
	return n
}

// doLoop reads what is behind the word do.
func (p *parser) doLoop() api.Node {
	statement := p.loopStatement()
	p.skipEnds()
	p.wantWord("while")
	return node("do", "", statement, p.condition())
}

// forLoop reads a for of either kind.
func (p *parser) forLoop() api.Node {
	p.next()
	p.want("(")
	if isName(p.peek()) && p.ahead(1) == word("in") && isName(p.ahead(2)) && p.ahead(3) == op(")") {
		return p.forIn()
	}
	first := p.unless(";", p.simple)
	p.want(";")
	p.skipLines()
	condition := p.unless(";", p.expression)
	p.want(";")
	p.skipLines()
	last := p.unless(")", p.simple)
	p.want(")")
	return node("for", "", first, condition, last, p.loopStatement())
}

// forIn reads what is behind the ( of a for through an array's keys.
func (p *parser) forIn() api.Node {
	variable := p.name()
	p.wantWord("in")
	array := node("var", p.name())
	p.want(")")
	return node("forin", variable, array, p.loopStatement())
}

// unless reads a node by read; none, if the op stands next.
func (p *parser) unless(text string, read func() api.Node) api.Node {
	if p.at(text) {
		return none()
	}
	return p.inner(read)
}
