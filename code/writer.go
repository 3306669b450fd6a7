package code

import (
	"slices"
	"strings"

	"tedder/api"
)

// writer writes the ops of one part.
type writer struct {
	arrays []string       // the program's global ones, rising
	params map[string]int // which one each parameter is, if the part is a function's
	ops    []api.Op
	loops  []loop // whose statements are written, the innermost last
	held   int    // how many values these loops hold on the stack
	leaves []int  // the ops that jump to the end
}

// loop: the ops that jump behind a loop, and to where it goes on.
type loop struct {
	breaks, continues []int
}

// add writes an op, which jumps nowhere yet, and gives its place.
func (w *writer) add(o api.Op) int {
	o.Do, o.Text, o.Jump = strings.Clone(o.Do), strings.Clone(o.Text), -1
	w.ops = append(w.ops, o)
	return len(w.ops) - 1
}

// here gives the place of the op that is written next.
func (w *writer) here() int {
	return len(w.ops)
}

// jump writes a jump, and gives its place.
func (w *writer) jump() int {
	return w.add(api.Op{Do: "jump", Last: true})
}

// jumpIf writes a jump that hangs on the value on the stack, as do says, and gives its place.
func (w *writer) jumpIf(do string) int {
	return w.add(api.Op{Do: do, Pop: 1})
}

// back lets the op at from jump to the one at to.
func (w *writer) back(from, to int) {
	w.ops[from].Jump = to
}

// land lets the ops at these places jump to what is written next.
func (w *writer) land(places ...int) {
	for _, place := range places {
		w.ops[place].Jump = w.here()
	}
}

// leave writes an op that leaves the part, with all that loops hold.
func (w *writer) leave(do string) {
	w.leaves = append(w.leaves, w.add(api.Op{Do: do, Pop: w.held, Last: true}))
}

// part writes the end, and gives the part of all ops.
func (w *writer) part(kind, name string) api.Part {
	w.land(w.leaves...)
	w.add(api.Op{Do: "end", Last: true})
	return api.Part{Kind: strings.Clone(kind), Name: strings.Clone(name), Ops: w.ops}
}

// contains tells whether the name is one of these, which are rising.
func contains(names []string, name string) bool {
	_, found := slices.BinarySearch(names, name)
	return found
}
