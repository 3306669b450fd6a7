package match

import "slices"

// Kinds of states: what is done at one.
const (
	accepts = iota // a match ends here
	takes          // one byte of set, then next
	forks          // next, and other
	begins         // next, at the beginning of the text alone
	ends           // next, at the end of the text alone
)

// state is a step of a match; next and other are places in the list of all states.
type state struct {
	kind        int
	set         *byteSet
	next, other int
}

// builder makes the states of a part.
type builder struct {
	states []state
}

// add lays a state behind the others, and gives its place.
func (b *builder) add(s state) int {
	b.states = append(b.states, s)
	return len(b.states) - 1
}

// fork adds a state that goes on to both, and gives its place.
func (b *builder) fork(one, other int) int {
	return b.add(state{kind: forks, next: one, other: other})
}

// build adds the states of p, which go on to then where p's match ends, and gives the one at which p's match begins.
func (b *builder) build(p part, then int) int {
	switch p.op {
	case "set":
		return b.add(state{kind: takes, set: p.set, next: then})
	case "bol":
		return b.add(state{kind: begins, next: then})
	case "eol":
		return b.add(state{kind: ends, next: then})
	case "alt":
		return b.alt(p.kids, then)
	case "rep":
		return b.rep(p, then)
	}
	for _, kid := range slices.Backward(p.kids) {
		then = b.build(kid, then)
	}
	return then
}

// alt builds kids, of which there is one at least, beside one another.
func (b *builder) alt(kids []part, then int) int {
	start := b.build(kids[0], then)
	for _, kid := range kids[1:] {
		start = b.fork(start, b.build(kid, then))
	}
	return start
}

// rep builds p's kid as often as it may stand there, from behind: first the times that may be left out.
func (b *builder) rep(p part, then int) int {
	kid, start := p.kids[0], then
	if p.hi == noBound {
		start = b.loop(kid, then)
	} else {
		for range p.hi - p.lo {
			start = b.fork(b.build(kid, start), then)
		}
	}
	for range p.lo {
		start = b.build(kid, start)
	}
	return start
}

// loop builds kid any number of times.
func (b *builder) loop(kid part, then int) int {
	start := b.fork(then, then)
	once := b.build(kid, start)
	b.states[start].next = once
	return start
}

// lookAhead finds out with what a match may begin, as if each place were the beginning and the end of the text.
func (m *Machine) lookAhead() {
	seen := make([]bool, len(m.states))
	open := []int{m.start}
	for len(open) > 0 {
		id := open[len(open)-1]
		open = open[:len(open)-1]
		if seen[id] {
			continue
		}
		seen[id] = true
		switch s := m.states[id]; s.kind {
		case accepts:
			m.empty = true
		case takes:
			m.first.join(s.set)
		default:
			open = append(open, s.next)
			if s.kind == forks {
				open = append(open, s.other)
			}
		}
	}
}

// join puts the bytes of other into s.
func (s *byteSet) join(other *byteSet) {
	for c, in := range other {
		s[c] = s[c] || in
	}
}
