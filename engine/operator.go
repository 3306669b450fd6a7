package engine

import (
	"strings"

	"tedder/value"
)

// mixed gives what an op makes of two numbers; false at a fault.
func (e *Engine) mixed(op string, a, b value.Value) (value.Value, bool) {
	v, ok := value.Mix(op, a, b)
	switch {
	case ok:
		return v, true
	case op == "^":
		return nil, e.fail("pow")
	}
	return nil, e.fail("div")
}

func doMix(p *phase, s *step) bool {
	b, a := p.value(), p.value()
	v, ok := p.mixed(s.Text, a, b)
	return ok && p.push(v)
}

func doCat(p *phase, _ *step) bool {
	texts, ok := p.texts(p.values(2)...)
	if !ok {
		return false
	}
	made, ok := p.joined(texts, "")
	return ok && p.push(str(made))
}

func doCompare(p *phase, s *step) bool {
	b, a := p.value(), p.value()
	order, ok := value.Compare(a, b, p.conversion())
	if !ok {
		return p.fail("conv")
	}
	return p.push(truth(holds(s.Text, order)))
}

// holds tells whether values of that order stand as an op says.
func holds(op string, order int) bool {
	switch op {
	case "<":
		return order < 0
	case "<=":
		return order <= 0
	case "==":
		return order == 0
	case "!=":
		return order != 0
	case ">":
		return order > 0
	}
	return order >= 0
}

func doMatches(p *phase, s *step) bool {
	second, first := p.value(), p.value()
	machine, ok := p.expression(second)
	if !ok {
		return false
	}
	text, ok := p.text(first)
	if !ok {
		return false
	}
	_, _, found := machine.Find(text, 0)
	return p.push(truth(found == (s.Text == "~")))
}

func doAssign(p *phase, s *step) bool {
	v, at := p.value(), p.place()
	if op := strings.TrimSuffix(s.Text, "="); op != "" {
		before, ok := at.get(p.Engine)
		if !ok {
			return false
		}
		if v, ok = p.mixed(op, before, v); !ok {
			return false
		}
	}
	return at.put(p.Engine, v) && p.push(v)
}

// doCount does ++ and --, ahead of a place and behind it.
func doCount(p *phase, s *step) bool {
	at := p.place()
	v, ok := at.get(p.Engine)
	if !ok {
		return false
	}
	before := value.Number(v)
	after := before + 1
	if s.Text == "--" {
		after = before - 1
	}
	if !at.put(p.Engine, num(after)) {
		return false
	}
	if s.Do == "pre" {
		return p.push(num(after))
	}
	return p.push(num(before))
}
