package syntax

import (
	"slices"

	"tedder/api"
)

// parser reads tokens one by one. Once it has failed, no tokens are left, so that all that reads soon ends.
type parser struct {
	rest   []api.Token
	failed bool
	nest   int    // how many nodes stand around what is read, at least
	kind   string // of the item that is read
	loops  int    // how many loops' statements stand around
	sends  bool   // whether a > here says where a print goes, and compares nothing
}

func op(text string) api.Token {
	return api.Token{Kind: "op", Text: text}
}

func word(text string) api.Token {
	return api.Token{Kind: "word", Text: text}
}

// node gives a node of these Kids, which are its own.
func node(op, text string, kids ...api.Node) api.Node {
	return api.Node{Op: op, Text: text, Kids: kids}
}

// none gives the node that stands where there is nothing.
func none() api.Node {
	return node("none", "")
}

// fail leaves nothing to be read, and gives what stands for a node then.
func (p *parser) fail() api.Node {
	p.failed = true
	p.rest = nil
	return none()
}

// done tells whether all is read.
func (p *parser) done() bool {
	return len(p.rest) == 0
}

// ahead gives the token behind count others; one without a kind, if there is none.
func (p *parser) ahead(count int) api.Token {
	if count >= len(p.rest) {
		return api.Token{}
	}
	return p.rest[count]
}

// peek gives the token that is read next; one without a kind, if all is read.
func (p *parser) peek() api.Token {
	return p.ahead(0)
}

// next reads a token.
func (p *parser) next() api.Token {
	t := p.peek()
	if !p.done() {
		p.rest = p.rest[1:]
	}
	return t
}

// at tells whether one of these ops stands next.
func (p *parser) at(ops ...string) bool {
	t := p.peek()
	return t.Kind == "op" && slices.Contains(ops, t.Text)
}

// take reads the op, if it stands next, and tells whether it did.
func (p *parser) take(text string) bool {
	return p.takeToken(op(text))
}

// takeWord reads the word, if it stands next, and tells whether it did.
func (p *parser) takeWord(text string) bool {
	return p.takeToken(word(text))
}

func (p *parser) takeToken(t api.Token) bool {
	if p.peek() != t {
		return false
	}
	p.next()
	return true
}

// want reads the op, which has to stand next.
func (p *parser) want(text string) {
	if !p.take(text) {
		p.fail()
	}
}

// wantWord reads the word, which has to stand next.
func (p *parser) wantWord(text string) {
	if !p.takeWord(text) {
		p.fail()
	}
}

// name reads a name, which has to stand next, also right ahead of a parenthesis.
func (p *parser) name() string {
	if !isName(p.peek()) {
		p.fail()
	}
	return p.next().Text
}

func isName(t api.Token) bool {
	return t.Kind == "name" || t.Kind == "func"
}

// atEnd tells whether an nl or a ; stands next.
func (p *parser) atEnd() bool {
	return p.peek().Kind == "nl" || p.at(";")
}

// skipLines reads all nl that stand next.
func (p *parser) skipLines() {
	for p.peek().Kind == "nl" {
		p.next()
	}
}

// skipEnds reads all nl and ; that stand next.
func (p *parser) skipEnds() {
	for p.atEnd() {
		p.next()
	}
}

// inner reads a node that stands in another one; it fails where the tree would be too deep, so that no text makes reading go too deep.
func (p *parser) inner(read func() api.Node) api.Node {
	if p.nest == api.MaxDepth {
		return p.fail()
	}
	p.nest++
	n := read()
	p.nest--
	return n
}
