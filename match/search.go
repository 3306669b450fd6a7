package match

// thread is a match that is under way: the state that takes the next byte, and the place from which the match began.
type thread struct {
	state, start int
}

// search goes through a text once, with all matches that are under way. Of the threads that come to the same state at the same place the one that began first is kept alone: whatever the others would come to, it comes to, too.
type search struct {
	machine *Machine
	text    string
	at      int
	now     []thread // those at the place at, by their starts, rising
	spare   []thread // a list's room, to be filled next
	seen    []int    // of each state the last place, plus 1, at which a thread came to it
	open    []int    // states to go on from

	found      bool
	start, end int // of the best match that was found
}

// run goes on to where no match can become better than the best one that was found.
func (r *search) run() {
	for {
		if !r.found {
			r.begin()
		}
		if r.at == len(r.text) || r.found && len(r.now) == 0 {
			return
		}
		r.step()
	}
}

// begin begins a match at this place, if one might begin there; where no other match is under way, it first goes on to such a place.
func (r *search) begin() {
	for len(r.now) == 0 && r.at < len(r.text) && !r.mayBegin() {
		r.at++
	}
	if r.mayBegin() {
		r.enter(r.machine.start, r.at)
	}
}

// mayBegin tells whether a match might begin at this place, by the byte there.
func (r *search) mayBegin() bool {
	if r.machine.empty {
		return true
	}
	return r.at < len(r.text) && r.machine.first[r.text[r.at]]
}

// step takes the byte at this place, and goes on to the next one.
func (r *search) step() {
	c := r.text[r.at]
	r.at++
	before := r.now
	r.now, r.spare = r.spare[:0], before
	for _, t := range before {
		// All behind this one began later, too, and so are of no use any more.
		if r.found && t.start > r.start {
			return
		}
		if s := &r.machine.states[t.state]; s.set[c] {
			r.enter(s.next, t.start)
		}
	}
}

// enter goes on from the state id to all that take a byte, with a match that began at start.
func (r *search) enter(id, start int) {
	r.open = append(r.open[:0], id)
	for len(r.open) > 0 {
		id = r.open[len(r.open)-1]
		r.open = r.open[:len(r.open)-1]
		if r.seen[id] == r.at+1 {
			continue
		}
		r.seen[id] = r.at + 1
		r.visit(id, start)
	}
}

// visit does what the state id asks for at this place.
func (r *search) visit(id, start int) {
	switch s := &r.machine.states[id]; s.kind {
	case accepts:
		r.found, r.start, r.end = true, start, r.at
	case takes:
		r.now = append(r.now, thread{id, start})
	case forks:
		r.open = append(r.open, s.other, s.next)
	case begins:
		if r.at == 0 {
			r.open = append(r.open, s.next)
		}
	case ends:
		if r.at == len(r.text) {
			r.open = append(r.open, s.next)
		}
	}
}
