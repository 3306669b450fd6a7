package engine

import "tedder/value"

func doConstant(p *phase, s *step) bool { return p.push(s.value) }

func doEre(p *phase, s *step) bool {
	_, _, found := s.machine.Find(p.record.Line(), 0)
	return p.push(truth(found))
}

func doVariable(p *phase, s *step) bool {
	v, ok := s.place.get(p.Engine)
	return ok && p.push(v)
}

func doPlace(p *phase, s *step) bool { return p.push(s.place) }

// doLocal lays what the parameter is, a value or an array.
func doLocal(p *phase, s *step) bool { return p.push(p.stack[p.frame().bottom+s.N]) }

func doLocalPlace(p *phase, s *step) bool { return p.push(local{p, p.frame().bottom + s.N}) }

func doArray(p *phase, s *step) bool { return p.push(s.array) }

func doKey(p *phase, s *step) bool {
	key, ok := p.key(p.values(s.Pop))
	return ok && p.push(key)
}

func doElement(p *phase, _ *step) bool {
	l := p.element()
	// To ask for an element makes its key.
	if !l.array.Has(l.key) {
		l.array.Put(l.key, none())
	}
	return p.push(l.array.Get(l.key))
}

func doElementPlace(p *phase, _ *step) bool { return p.push(p.element()) }

func doIn(p *phase, _ *step) bool {
	l := p.element()
	return p.push(truth(l.array.Has(l.key)))
}

func doField(p *phase, _ *step) bool {
	v, ok := fieldAt(fieldNumber(p.value())).get(p.Engine)
	return ok && p.push(v)
}

func doFieldPlace(p *phase, _ *step) bool { return p.push(fieldAt(fieldNumber(p.value()))) }

func doUnary(p *phase, s *step) bool {
	v := p.value()
	switch s.Text {
	case "-":
		return p.push(num(-value.Number(v)))
	case "+":
		return p.push(num(value.Number(v)))
	}
	return p.push(truth(!value.True(v)))
}
