package syntax

import "tedder/api"

// rightBuilt tells whether a built has as many Kids as it may have, and of the kind it may have.
func rightBuilt(n api.Node) bool {
	count := len(n.Kids)
	least, most := countsOf(n.Text)
	if count < least || count > most {
		return false
	}
	switch n.Text {
	case "split":
		return n.Kids[1].Op == "var"
	case "sub", "gsub":
		return count == 2 || isPlace(n.Kids[2])
	}
	return true
}

// countsOf gives how many Kids a built has at least, and at most.
func countsOf(name string) (int, int) {
	switch name {
	case "length":
		return 0, 1
	case "substr", "split", "sub", "gsub":
		return 2, 3
	case "index", "match":
		return 2, 2
	case "sprintf":
		return 1, api.MaxTokens
	}
	return 1, 1
}

// deeper tells whether more than limit nodes stand in one another, n among them.
func deeper(n api.Node, limit int) bool {
	if limit == 0 {
		return true
	}
	for _, kid := range n.Kids {
		if deeper(kid, limit-1) {
			return true
		}
	}
	return false
}
