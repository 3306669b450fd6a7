package effect

import (
	"slices"

	"tedder/api"
)

// kid gives the Kid of a node at a place; the zero node, where there is none, as in trees that nobody parsed.
func kid(n api.Node, place int) api.Node {
	if place >= len(n.Kids) {
		return api.Node{}
	}
	return n.Kids[place]
}

// bare gives what is in a node's groups.
func bare(n api.Node) api.Node {
	for n.Op == "group" {
		n = kid(n, 0)
	}
	return n
}

// same tells whether two trees are the same.
func same(a, b api.Node) bool {
	return a.Op == b.Op && a.Text == b.Text && slices.EqualFunc(a.Kids, b.Kids, same)
}

// pure tells whether nothing is changed in expressions.
func pure(l []api.Node) bool {
	for _, n := range l {
		switch n.Op {
		case "assign", "pre", "post":
			return false
		case "built":
			if n.Text == "sub" || n.Text == "gsub" {
				return false
			}
		}
		if !pure(n.Kids) {
			return false
		}
	}
	return true
}

// numeric tells whether an expression makes a number whatever is there.
func numeric(n api.Node) bool {
	switch n = bare(n); n.Op {
	case "num", "ere", "unary":
		return true
	case "bin":
		return n.Text != "cat"
	case "var":
		return n.Text == "NF" || n.Text == "NR" || n.Text == "FNR"
	case "built":
		return n.Text == "length" || n.Text == "int" || n.Text == "index"
	case "cond":
		return numeric(kid(n, 1)) && numeric(kid(n, 2))
	}
	return false
}
