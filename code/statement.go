package code

import "tedder/api"

// statement writes a statement. The stack is behind it as it was ahead of it.
func (w *writer) statement(n api.Node) {
	switch n.Op {
	case "block":
		for _, kid := range n.Kids {
			w.statement(kid)
		}
	case "expr":
		w.expressions(n.Kids)
		w.add(api.Op{Do: "drop", Pop: 1})
	case "print", "printf":
		w.printing(n)
	case "delete":
		w.keyed("delete", n, 0)
	case "if":
		w.choice(n)
	case "while":
		w.forLoop(api.Node{}, n.Kids[0], api.Node{}, n.Kids[1])
	case "for":
		w.forLoop(n.Kids[0], n.Kids[1], n.Kids[2], n.Kids[3])
	case "do":
		w.doLoop(n)
	case "forin":
		w.forIn(n)
	case "break", "continue", "next", "exit", "return":
		w.leaving(n)
	}
}

// printing writes a print or printf.
func (w *writer) printing(n api.Node) {
	printed := len(n.Kids)
	if n.Text != "" {
		printed--
	}
	w.expressions(n.Kids)
	w.add(api.Op{Do: n.Op, Text: n.Text, N: printed, Pop: len(n.Kids)})
}

// choice writes an if.
func (w *writer) choice(n api.Node) {
	w.expression(n.Kids[0])
	otherwise := w.jumpIf("iffalse")
	w.statement(n.Kids[1])
	if len(n.Kids) == 2 {
		w.land(otherwise)
		return
	}
	end := w.jump()
	w.land(otherwise)
	w.statement(n.Kids[2])
	w.land(end)
}

// leaving writes a statement behind which the next one isn't done.
func (w *writer) leaving(n api.Node) {
	w.expressions(n.Kids)
	switch n.Op {
	case "break":
		l := w.innermost()
		l.breaks = append(l.breaks, w.jump())
		return
	case "continue":
		l := w.innermost()
		l.continues = append(l.continues, w.jump())
		return
	case "exit":
		if len(n.Kids) > 0 {
			w.add(api.Op{Do: "status", Pop: 1})
		}
	case "return":
		if len(n.Kids) > 0 {
			w.add(api.Op{Do: "result", Pop: 1})
		}
	}
	w.leave(n.Op)
}
