package engine

import (
	"strings"

	"tedder/ere"
	"tedder/match"
	"tedder/value"
)

// conversion gives CONVFMT's text, which isn't made by itself.
func (e *Engine) conversion() string {
	// By this format each number's text is made.
	s, _ := value.Text(e.scalar("CONVFMT"), "%.6g")
	return s
}

// output gives OFMT's text. Where that isn't made, the empty one is no format, either.
func (e *Engine) output() string { return e.Text("OFMT") }

// text gives a value's text; false at a fault.
func (e *Engine) text(v value.Value) (string, bool) {
	return e.textBy(v, e.conversion())
}

// textBy gives a value's text, of a number by a format; false at a fault.
func (e *Engine) textBy(v value.Value, format string) (string, bool) {
	s, ok := value.Text(v, format)
	if !ok {
		return "", e.fail("conv")
	}
	return s, true
}

// textAt gives the text of what is at a scalar; false at a fault.
func (e *Engine) textAt(name string) (string, bool) {
	return e.text(e.scalar(name))
}

// textIn gives the text of what is at a place; false at a fault.
func (e *Engine) textIn(at place) (string, bool) {
	v, ok := at.get(e)
	if !ok {
		return "", false
	}
	return e.text(v)
}

// textsBy gives values' texts, of numbers by a format; false at a fault.
func (e *Engine) textsBy(values []value.Value, format string) ([]string, bool) {
	texts := make([]string, len(values))
	for i, v := range values {
		s, ok := e.textBy(v, format)
		if !ok {
			return nil, false
		}
		texts[i] = s
	}
	return texts, true
}

// texts gives values' texts; false at a fault.
func (e *Engine) texts(values ...value.Value) ([]string, bool) {
	return e.textsBy(values, e.conversion())
}

// joined gives texts with another one between; false at a fault.
func (e *Engine) joined(texts []string, between string) (string, bool) {
	// A text that is too long isn't made: it could be longer than memory is.
	size := (len(texts) - 1) * len(between)
	for _, s := range texts {
		size += len(s)
	}
	if size > e.limits.Length {
		return "", e.fail("length")
	}
	return strings.Join(texts, between), true
}

// key gives the key that values make; false at a fault.
func (e *Engine) key(values []value.Value) (string, bool) {
	texts, ok := e.texts(values...)
	if !ok {
		return "", false
	}
	between := ""
	if len(values) > 1 {
		if between, ok = e.textAt("SUBSEP"); !ok {
			return "", false
		}
	}
	return e.joined(texts, between)
}

// expression: a text that was asked to be one, and its machine.
type expression struct {
	text    string
	machine *match.Machine
}

// expression gives the machine of a value's text; false at a fault.
func (p *phase) expression(v value.Value) (*match.Machine, bool) {
	s, ok := p.text(v)
	if !ok {
		return nil, false
	}
	if m, known := p.expressions[s]; known {
		return m, true
	}
	// One that a loop asks for again and again is read once.
	if p.asked == nil || p.asked.text != s {
		tree, fault := ere.Parse(s)
		if fault != 0 {
			return nil, p.fail("ere")
		}
		p.asked = &expression{s, match.New(tree)}
	}
	return p.asked.machine, true
}
