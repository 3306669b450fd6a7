package syntax

import "tedder/api"

// simple reads a simple statement, but not a do.
func (p *parser) simple() api.Node {
	t := p.peek()
	if t.Kind == "word" {
		p.next()
		return p.command(t.Text)
	}
	return node("expr", "", p.inner(p.expression))
}

// command reads what is behind the word that a simple statement begins with.
func (p *parser) command(name string) api.Node {
	switch name {
	case "print", "printf":
		return p.printing(name)
	case "delete":
		return p.deletion()
	case "exit":
		return p.leaving(name)
	case "return":
		if p.kind == "function" {
			return p.leaving(name)
		}
	case "next":
		if p.kind == "rule" {
			return node(name, "")
		}
	case "break", "continue":
		if p.loops > 0 {
			return node(name, "")
		}
	}
	return p.fail()
}

// leaving reads the expression behind an exit or a return, if there is one.
func (p *parser) leaving(name string) api.Node {
	if p.atSimpleEnd() {
		return node(name, "")
	}
	return node(name, "", p.inner(p.expression))
}

// atSimpleEnd tells whether a simple statement may end here; a ) is behind a for's last one.
func (p *parser) atSimpleEnd() bool {
	return p.atEnd() || p.at("}", ")")
}

// deletion reads what is behind the word delete.
func (p *parser) deletion() api.Node {
	name := p.name()
	p.want("[")
	return node("delete", name, p.closedList("]")...)
}

// printing reads what is behind the word print or printf.
func (p *parser) printing(name string) api.Node {
	var kids []api.Node
	if !p.atSimpleEnd() && !p.at(">", ">>") {
		kids = p.printed()
	} else if name == "printf" {
		return p.fail()
	}
	if !p.at(">", ">>") {
		return node(name, "", kids...)
	}
	direction := p.next().Text
	return node(name, direction, append(kids, p.inner(p.joined))...)
}

// printed reads the list of a print: expressions, or all of them in parentheses.
func (p *parser) printed() []api.Node {
	start := p.rest
	if p.take("(") {
		l := p.closedList(")")
		if p.failed || len(l) > 1 && p.peek() != word("in") {
			return l
		}
		// What was read in parentheses is but the beginning of an expression.
		p.rest = start
	}
	p.sends = true
	l := p.list()
	p.sends = false
	return l
}
