package code

import (
	"slices"

	"tedder/api"
)

// call writes a call of a function of the program.
func (w *writer) call(n api.Node) {
	for _, argument := range n.Kids {
		if argument.Op == "var" && contains(w.arrays, argument.Text) {
			w.array(argument.Text)
		} else {
			w.expression(argument)
		}
	}
	w.add(api.Op{Do: "tick"})
	w.add(api.Op{Do: "call", Text: n.Text, Pop: len(n.Kids), Push: 1})
}

// built writes a call of a function of the language.
func (w *writer) built(n api.Node) {
	kids := completed(n)
	for i, kid := range kids {
		w.handed(n.Text, i, kid)
	}
	w.add(api.Op{Do: "built", Text: n.Text, Pop: len(kids), Push: 1})
}

// completed gives a built's Kids, with $0 where it stands for one that is missing.
func completed(n api.Node) []api.Node {
	missing := n.Text == "length" && len(n.Kids) == 0 || replaces(n.Text) && len(n.Kids) == 2
	if !missing {
		return n.Kids
	}
	record := api.Node{Op: "field", Kids: []api.Node{{Op: "num", Text: "0"}}}
	return append(slices.Clone(n.Kids), record)
}

// replaces tells whether the built replaces something at its third Kid.
func replaces(name string) bool {
	return name == "sub" || name == "gsub"
}

// handed writes what lays on the stack what a built takes of the Kid n, which is its ith one from 0 on.
func (w *writer) handed(name string, i int, n api.Node) {
	switch {
	case replaces(name) && i == 0, name == "match" && i == 1:
		w.ere(n)
	case replaces(name) && i == 2:
		w.place(n)
	case name == "split" && i == 1:
		w.array(n.Text)
	case name == "split" && i == 2:
		w.separator(n)
	default:
		w.expression(n)
	}
}
