package effect

import (
	"slices"

	"tedder/api"
)

// updateOf gives the update that a statement is, and the expressions that are asked for it; without a class, if it is none.
func updateOf(n api.Node) (api.Update, []api.Node) {
	switch n.Op {
	case "expr":
		return changeOf(kid(n, 0))
	case "if":
		return extremeOf(n)
	}
	return api.Update{}, nil
}

// changeOf gives the update that an expression is where it is a statement, sum, sums or last, as updateOf does.
func changeOf(n api.Node) (api.Update, []api.Node) {
	switch place := kid(n, 0); {
	case place.Op == "var" && special(place.Text):
	case place.Op == "var" && adds(n):
		return api.Update{Name: place.Text, Class: "sum"}, n.Kids[1:]
	case place.Op == "var" && n.Op == "assign" && n.Text == "=":
		return api.Update{Name: place.Text, Class: "last"}, n.Kids[1:]
	case place.Op == "elem" && adds(n):
		if asked := slices.Concat(place.Kids, n.Kids[1:]); pure(asked) {
			return api.Update{Name: place.Text, Class: "sums"}, asked
		}
	}
	return api.Update{}, nil
}

// adds tells whether an expression adds to its place, or takes off it.
func adds(n api.Node) bool {
	switch n.Op {
	case "pre", "post":
		return true
	case "assign":
		return n.Text == "+=" || n.Text == "-="
	}
	return false
}

// extremeOf gives the update that an if is, max or min, as updateOf does.
func extremeOf(n api.Node) (api.Update, []api.Node) {
	if len(n.Kids) != 2 {
		return api.Update{}, nil
	}
	class, compared, name := comparison(bare(n.Kids[0]))
	u, kept := changeOf(lone(n.Kids[1]))
	if class == "" || u.Class != "last" || u.Name != name || !slices.EqualFunc(compared, kept, same) {
		return api.Update{}, nil
	}
	if e := compared[0]; !pure(compared) || bare(e).Op != "field" && !numeric(e) {
		return api.Update{}, nil
	}
	// What is compared is put there, too; to ask one of both is enough.
	return api.Update{Name: name, Class: class}, compared
}

// comparison gives what an expression tells to be kept: max or min, what is compared, alone in a list, and the variable; no class, if it doesn't compare so.
func comparison(n api.Node) (string, []api.Node, string) {
	if n.Op != "bin" || len(n.Kids) != 2 || n.Kids[1].Op != "var" {
		return "", nil, ""
	}
	class := ""
	switch n.Text {
	case ">":
		class = "max"
	case "<":
		class = "min"
	}
	return class, n.Kids[:1], n.Kids[1].Text
}

// lone gives the expression that is all of a statement, or of a block of that alone; else the zero node.
func lone(n api.Node) api.Node {
	if n.Op == "block" && len(n.Kids) == 1 {
		n = n.Kids[0]
	}
	if n.Op != "expr" {
		return api.Node{}
	}
	return kid(n, 0)
}
