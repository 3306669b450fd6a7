package engine

import (
	"strings"

	"tedder/spell"
	"tedder/value"
)

// maxSpelled is the bound of what a format makes.
const maxSpelled = 1 << 40

func doPrint(p *phase, s *step) bool {
	file := p.values(s.Pop - s.N)
	text, ok := p.printed(p.values(s.N))
	return ok && p.write(text, file)
}

// printed gives what print writes of values; false at a fault.
func (e *Engine) printed(values []value.Value) (string, bool) {
	between, ok := e.textAt("OFS")
	if !ok {
		return "", false
	}
	texts := []string{e.record.Line()}
	if len(values) > 0 {
		if texts, ok = e.textsBy(values, e.output()); !ok {
			return "", false
		}
	}
	end, ok := e.textAt("ORS")
	if !ok {
		return "", false
	}
	return strings.Join(texts, between) + end, true
}

func doPrintf(p *phase, s *step) bool {
	file := p.values(s.Pop - s.N)
	text, ok := p.spelled(p.values(s.N))
	return ok && p.write(text, file)
}

// spelled gives what a format, the first value, makes of the others; false at a fault.
func (e *Engine) spelled(values []value.Value) (string, bool) {
	format, ok := e.text(values[0])
	if !ok {
		return "", false
	}
	made, ok := spell.Spell(format, values[1:], e.conversion(), maxSpelled)
	if !ok {
		return "", e.fail("format")
	}
	return made, true
}

func doSprintf(p *phase, s *step) bool {
	made, ok := p.spelled(p.values(s.Pop))
	if !ok {
		return false
	}
	if len(made) > p.limits.Length {
		return p.fail("length")
	}
	return p.push(str(made))
}

// doLine does what is done of a rule without a block.
func doLine(p *phase, _ *step) bool {
	end, ok := p.textAt("ORS")
	return ok && p.write(p.record.Line()+end, nil)
}

// write puts a text behind what was printed, or, if there is one, behind what the file of that value's text has; false at a fault.
func (e *Engine) write(text string, file []value.Value) bool {
	if len(file) == 0 {
		e.out.WriteString(text)
		return true
	}
	name, ok := e.text(file[0])
	if !ok {
		return false
	}
	if name == "" {
		return e.fail("file")
	}
	e.files.write(name, text)
	return true
}
