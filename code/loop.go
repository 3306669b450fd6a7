package code

import "tedder/api"

// innermost gives the loop whose statement is written.
func (w *writer) innermost() *loop {
	return &w.loops[len(w.loops)-1]
}

// loopStatement writes a loop's statement, up to where a continue leads, and gives the ops that break the loop.
func (w *writer) loopStatement(n api.Node) []int {
	w.add(api.Op{Do: "tick"})
	w.loops = append(w.loops, loop{})
	w.statement(n)
	l := *w.innermost()
	w.loops = w.loops[:len(w.loops)-1]
	w.land(l.continues...)
	return l.breaks
}

// forLoop writes a loop that is asked ahead of its statement whether it goes on. (A break in last is one of the loop around, as last is no part of the statement.)
func (w *writer) forLoop(first, condition, last, statement api.Node) {
	w.statement(first)
	start := w.here()
	var ends []int
	if condition.Op != "none" {
		w.expression(condition)
		ends = append(ends, w.jumpIf("iffalse"))
	}
	ends = append(ends, w.loopStatement(statement)...)
	w.statement(last)
	w.back(w.jump(), start)
	w.land(ends...)
}

// doLoop writes a loop that is asked behind its statement whether it goes on.
func (w *writer) doLoop(n api.Node) {
	start := w.here()
	breaks := w.loopStatement(n.Kids[0])
	w.expression(n.Kids[1])
	w.back(w.jumpIf("iftrue"), start)
	w.land(breaks...)
}

// forIn writes a loop through an array's keys. The variable's place and the list of keys stay on the stack till it ends.
func (w *writer) forIn(n api.Node) {
	const held = 2
	w.variable("&", n.Text)
	w.array(n.Kids[0].Text)
	w.add(api.Op{Do: "keys", Pop: 1, Push: 1})
	start := w.add(api.Op{Do: "each", Pop: held, Push: held})
	w.held += held
	breaks := w.loopStatement(n.Kids[1])
	w.held -= held
	w.back(w.jump(), start)
	w.land(start)
	w.land(breaks...)
	w.add(api.Op{Do: "drop", Pop: held})
}
