package engine

import (
	"strings"

	"tedder/api"
	"tedder/value"
)

// File makes name the file's that is read, of which no record was read yet.
func (e *Engine) File(name string) {
	if e.goesOn() {
		e.scalars["FILENAME"].put(e, str(strings.Clone(name)))
		e.scalars["FNR"].put(e, num(0))
	}
}

// Begin does the BEGIN items, and tells how that ended.
func (e *Engine) Begin() api.End {
	if !e.made() {
		return api.End{}
	}
	if e.goesOn() {
		e.do(e.program.begins)
	}
	return e.end(e.over)
}

// Record does the rules with a line, and tells how that ended.
func (e *Engine) Record(line string) api.End {
	if !e.made() {
		return api.End{}
	}
	if e.goesOn() && e.take(line) {
		p := e.phase()
		for _, r := range e.program.rules {
			if !p.rule(r) {
				break
			}
		}
	}
	return e.end(e.over)
}

// take counts a record, and reads it; false at a fault.
func (e *Engine) take(line string) bool {
	for _, name := range []string{"NR", "FNR"} {
		e.scalars[name].put(e, num(value.Number(e.scalar(name))+1))
	}
	return e.read(line)
}

// End does the END items, once, and tells how that ended.
func (e *Engine) End() api.End {
	if !e.made() {
		return api.End{}
	}
	if e.over != "" && e.over != "exit" {
		return e.end(e.over)
	}
	if e.ended {
		return e.end("")
	}
	before := e.over
	e.ended, e.over = true, ""
	e.do(e.program.ends)
	how := e.over
	if how == "" {
		e.over = before
	}
	return e.end(how)
}

// end tells how a phase ended.
func (e *Engine) end(how string) api.End {
	return api.End{Kind: how, Status: e.status}
}

// do does parts, one behind the other, as a phase.
func (e *Engine) do(parts []*part) {
	p := e.phase()
	for _, part := range parts {
		if !p.run(part) {
			return
		}
	}
}
