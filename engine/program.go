package engine

import (
	"tedder/api"
	"tedder/assoc"
	"tedder/dec"
	"tedder/match"
	"tedder/value"
)

// program is what is done in each phase.
type program struct {
	begins, ends []*part
	rules        []*rule
	functions    map[string]*part
}

// rule is a rule, or a range. Of its parts those that it doesn't have are nil.
type rule struct {
	pattern, from, to, block *part
	on                       bool // whether a range is
}

// part is a part of the program's code.
type part struct {
	steps []step
}

// step is an op, how it is done, and what it needs for that.
type step struct {
	api.Op
	act     act
	value   value.Value    // of num and str
	machine *match.Machine // of ere
	place   place          // of var and &var
	array   *assoc.Array   // of array
	called  *part          // of call
}

// load makes the program of its code.
func (e *Engine) load(parts []api.Part) {
	e.program.functions = map[string]*part{}
	for _, p := range parts {
		// A call may stand ahead of its function.
		if p.Kind == "func" {
			e.program.functions[p.Name] = &part{}
		}
	}
	r := &rule{}
	for _, p := range parts {
		steps := e.linked(p.Ops)
		switch p.Kind {
		case "func":
			e.program.functions[p.Name].steps = steps
		case "BEGIN":
			e.program.begins = append(e.program.begins, &part{steps})
		case "END":
			e.program.ends = append(e.program.ends, &part{steps})
		case "pattern":
			r.pattern = &part{steps}
		case "from":
			r.from = &part{steps}
		case "to":
			r.to = &part{steps}
		case "rule":
			r.block = &part{steps}
			e.program.rules = append(e.program.rules, r)
			r = &rule{}
		}
	}
}

// linked gives the steps of ops.
func (e *Engine) linked(ops []api.Op) []step {
	steps := make([]step, len(ops))
	for i, o := range ops {
		s := step{Op: o, act: actOf(o)}
		switch o.Do {
		case "num":
			x, _ := dec.Prefix(o.Text)
			s.value = num(x)
		case "str":
			s.value = str(o.Text)
		case "ere":
			s.machine = e.expressions[o.Text]
		case "var", "&var":
			s.place = e.scalars[o.Text]
		case "array":
			s.array = e.arrays[o.Text]
		case "call":
			s.called = e.program.functions[o.Text]
		}
		steps[i] = s
	}
	return steps
}
