package code

import "tedder/api"

// expression writes what lays an expression's value on the stack.
func (w *writer) expression(n api.Node) {
	switch n.Op {
	case "num", "str", "ere":
		w.add(api.Op{Do: n.Op, Text: n.Text, Push: 1})
	case "group":
		w.expression(n.Kids[0])
	case "var":
		w.variable("", n.Text)
	case "elem", "in":
		w.keyed(n.Op, n, 1)
	case "field":
		w.expressions(n.Kids)
		w.add(api.Op{Do: "field", Pop: 1, Push: 1})
	case "unary":
		w.expressions(n.Kids)
		w.add(api.Op{Do: "unary", Text: n.Text, Pop: 1, Push: 1})
	case "bin":
		w.binary(n)
	case "cond":
		w.conditional(n)
	case "assign":
		w.place(n.Kids[0])
		w.expression(n.Kids[1])
		w.add(api.Op{Do: "assign", Text: n.Text, Pop: 2, Push: 1})
	case "pre", "post":
		w.place(n.Kids[0])
		w.add(api.Op{Do: n.Op, Text: n.Text, Pop: 1, Push: 1})
	case "call":
		w.call(n)
	case "built":
		w.built(n)
	}
}

// expressions writes what lays the values of expressions on the stack, the last one topmost.
func (w *writer) expressions(l []api.Node) {
	for _, n := range l {
		w.expression(n)
	}
}

// binary writes an op between two expressions.
func (w *writer) binary(n api.Node) {
	switch n.Text {
	case "&&":
		w.shortened(n, "iffalse", "0", "1")
		return
	case "||":
		w.shortened(n, "iftrue", "1", "0")
		return
	}
	w.expression(n.Kids[0])
	if n.Text == "~" || n.Text == "!~" {
		w.ere(n.Kids[1])
	} else {
		w.expression(n.Kids[1])
	}
	w.add(api.Op{Do: "bin", Text: n.Text, Pop: 2, Push: 1})
}

// shortened writes a && or ||: the first one that jumps settles it, and the number is early; otherwise it is late.
func (w *writer) shortened(n api.Node, do, early, late string) {
	w.expression(n.Kids[0])
	first := w.jumpIf(do)
	w.expression(n.Kids[1])
	second := w.jumpIf(do)
	w.number(late)
	end := w.jump()
	w.land(first, second)
	w.number(early)
	w.land(end)
}

// number writes what lays a number on the stack.
func (w *writer) number(digits string) {
	w.add(api.Op{Do: "num", Text: digits, Push: 1})
}

// conditional writes a cond.
func (w *writer) conditional(n api.Node) {
	w.expression(n.Kids[0])
	otherwise := w.jumpIf("iffalse")
	w.expression(n.Kids[1])
	end := w.jump()
	w.land(otherwise)
	w.expression(n.Kids[2])
	w.land(end)
}

// ere writes what lays there the value whose text is an expression over bytes; of an ere its own text, not whether it matches.
func (w *writer) ere(n api.Node) {
	if n.Op == "ere" {
		n.Op = "str"
	}
	w.expression(n)
}

// separator writes what lays there the value whose text parts another one. The parentheses make an expression of an ere of one byte, too.
func (w *writer) separator(n api.Node) {
	if n.Op == "ere" {
		n.Text = "(" + n.Text + ")"
	}
	w.ere(n)
}
