package code

import "tedder/api"

// place writes what lays the place n on the stack.
func (w *writer) place(n api.Node) {
	switch n.Op {
	case "var":
		w.variable("&", n.Text)
	case "elem":
		w.keyed("&elem", n, 1)
	case "field":
		w.expressions(n.Kids)
		w.add(api.Op{Do: "&field", Pop: 1, Push: 1})
	}
}

// variable writes what lays a variable's value on the stack, or, with & ahead, its place.
func (w *writer) variable(ahead, name string) {
	if i, ok := w.params[name]; ok {
		w.add(api.Op{Do: ahead + "local", N: i, Push: 1})
		return
	}
	w.add(api.Op{Do: ahead + "var", Text: name, Push: 1})
}

// array writes what lays an array on the stack.
func (w *writer) array(name string) {
	if i, ok := w.params[name]; ok {
		w.add(api.Op{Do: "local", N: i, Push: 1})
		return
	}
	w.add(api.Op{Do: "array", Text: name, Push: 1})
}

// keyed writes an op of n's array at the key that n's Kids make.
func (w *writer) keyed(do string, n api.Node, push int) {
	w.array(n.Text)
	w.expressions(n.Kids)
	w.add(api.Op{Do: "key", Pop: len(n.Kids), Push: 1})
	w.add(api.Op{Do: do, Pop: 2, Push: push})
}
