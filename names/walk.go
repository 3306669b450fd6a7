package names

import "tedder/api"

// item learns from an item of the program.
func (r *resolver) item(n api.Node) {
	if n.Op != "func" {
		r.walk(n.Kids)
		return
	}
	r.within = n.Text
	if len(n.Kids) > 1 {
		r.walk(n.Kids[1:])
	}
	r.within = ""
}

// walk learns from nodes and all that is in them.
func (r *resolver) walk(l []api.Node) {
	for _, n := range l {
		switch n.Op {
		case "var", "forin":
			r.isScalar(r.number(n.Text))
		case "elem", "in", "delete":
			r.isArray(r.number(n.Text))
		}
		r.kids(n)
	}
}

// kids learns from what is in a node. The place of an array's name, and that of an argument, tells of a variable there what no node of its own does.
func (r *resolver) kids(n api.Node) {
	switch {
	case n.Op == "call":
		r.call(n)
	case n.Op == "forin":
		r.array(n.Kids, 0)
	case n.Op == "built" && n.Text == "split":
		r.array(n.Kids, 1)
	default:
		r.walk(n.Kids)
	}
}

// array learns from nodes of which the one at the place is to be an array's name.
func (r *resolver) array(l []api.Node, place int) {
	for i, n := range l {
		if i == place && n.Op == "var" {
			r.isArray(r.number(n.Text))
		} else {
			r.walk(l[i : i+1])
		}
	}
}

// call learns from a call of a function.
func (r *resolver) call(n api.Node) {
	f, ok := r.functions[n.Text]
	if !ok || len(n.Kids) > len(f.params) {
		r.wrong = true
		return
	}
	for i, argument := range n.Kids {
		if argument.Op == "var" {
			r.join(r.number(argument.Text), f.params[i])
			continue
		}
		r.isScalar(f.params[i])
		r.walk(n.Kids[i : i+1])
	}
}
