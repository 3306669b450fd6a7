package engine

import (
	"math"
	"strconv"

	"tedder/field"
	"tedder/octet"
	"tedder/value"
	"tedder/words"
)

func doLength(p *phase, _ *step) bool {
	text, ok := p.text(p.value())
	return ok && p.push(num(float64(len(text))))
}

func doInt(p *phase, _ *step) bool { return p.push(num(math.Trunc(value.Number(p.value())))) }

func doLetters(p *phase, s *step) bool {
	text, ok := p.text(p.value())
	if !ok {
		return false
	}
	if s.Text == "toupper" {
		return p.push(str(octet.Upper(text)))
	}
	return p.push(str(octet.Lower(text)))
}

func doIndex(p *phase, _ *step) bool {
	texts, ok := p.texts(p.values(2)...)
	return ok && p.push(num(float64(octet.Index(texts[0], texts[1]))))
}

func doSubstr(p *phase, s *step) bool {
	handed := p.values(s.Pop)
	text, ok := p.text(handed[0])
	if !ok {
		return false
	}
	size, has := 0.0, len(handed) == 3
	if has {
		size = value.Number(handed[2])
	}
	return p.push(str(words.Substr(text, value.Number(handed[1]), size, has)))
}

func doSplit(p *phase, s *step) bool {
	separator := p.scalar("FS")
	if s.Pop == 3 {
		separator = p.value()
	}
	array := p.array()
	texts, ok := p.texts(p.value(), separator)
	if !ok {
		return false
	}
	lines, ok := p.lines()
	if !ok {
		return false
	}
	fields, ok := field.Split(texts[0], texts[1], lines)
	if !ok {
		return p.fail("ere")
	}
	array.Clear()
	for i, f := range fields {
		array.Put(strconv.Itoa(i+1), value.Outside(f))
	}
	return p.push(num(float64(len(fields))))
}

// doSub does sub and gsub.
func doSub(p *phase, s *step) bool {
	at, by, what := p.place(), p.value(), p.value()
	machine, ok := p.expression(what)
	if !ok {
		return false
	}
	repl, ok := p.text(by)
	if !ok {
		return false
	}
	text, ok := p.textIn(at)
	if !ok {
		return false
	}
	made, count, ok := words.Sub(machine, repl, text, s.Text == "gsub", p.limits.Length)
	if !ok {
		return p.fail("length")
	}
	if count > 0 && !at.put(p.Engine, str(made)) {
		return false
	}
	return p.push(num(float64(count)))
}

func doMatch(p *phase, _ *step) bool {
	what, v := p.value(), p.value()
	text, ok := p.text(v)
	if !ok {
		return false
	}
	machine, ok := p.expression(what)
	if !ok {
		return false
	}
	place, size := words.Match(machine, text)
	p.scalars["RSTART"].put(p.Engine, num(float64(place)))
	p.scalars["RLENGTH"].put(p.Engine, num(float64(size)))
	return p.push(num(float64(place)))
}
