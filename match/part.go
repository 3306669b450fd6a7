package match

import "tedder/api"

// byteSet tells of each byte whether it is in a set.
type byteSet [256]bool

// Bounds of trees.
const (
	maxDepth = 2000
	noBound  = -1 // a rep's Hi, where there is no greatest count
)

// part is a tree without what makes no difference to where it matches. Without that a tree's size would not bound how many states it has, for parts without a size may stand in it in any number.
type part struct {
	op     string
	set    *byteSet
	kids   []part
	lo, hi int
}

// nothing gives the part that matches the empty text everywhere, and no other.
func nothing() part {
	return part{op: "cat"}
}

// isNothing tells whether p is what nothing gives.
func (p part) isNothing() bool {
	return p.op == "cat" && len(p.kids) == 0
}

// read gives the part of e, which stands within deep others, and its size; false, if e isn't a right tree.
func read(e api.Ere, deep int) (part, int, bool) {
	if deep > maxDepth {
		return part{}, 0, false
	}
	switch e.Op {
	case "set", "bol", "eol":
		return readLeaf(e)
	case "cat":
		return readRow(e, deep, 0)
	case "alt":
		return readRow(e, deep, 1)
	case "rep":
		return readRep(e, deep)
	}
	return part{}, 0, false
}

// readLeaf reads a set, a bol or an eol.
func readLeaf(e api.Ere) (part, int, bool) {
	if len(e.Kids) > 0 {
		return part{}, 0, false
	}
	p := part{op: e.Op}
	if e.Op == "set" {
		p.set = new(byteSet)
		for i := range len(e.Set) {
			p.set[e.Set[i]] = true
		}
	}
	return p, 1, true
}

// readRow reads a cat or an alt, whose size is own beyond its kids'.
func readRow(e api.Ere, deep, own int) (part, int, bool) {
	if e.Op == "alt" && len(e.Kids) == 0 {
		return part{}, 0, false
	}
	row, size, optional := part{op: e.Op}, own, false
	for _, kid := range e.Kids {
		p, more, ok := read(kid, deep+1)
		size += more
		if !ok || size > api.MaxEre {
			return part{}, 0, false
		}
		if p.isNothing() {
			optional = true
		} else {
			row.kids = append(row.kids, p)
		}
	}
	// In a cat what matches the empty text alone plays no part; in an alt it does, but only once.
	if e.Op == "alt" && optional {
		row.kids = append(row.kids, nothing())
	}
	return row, size, true
}

// readRep reads a rep.
func readRep(e api.Ere, deep int) (part, int, bool) {
	if len(e.Kids) != 1 || !rightBounds(e.Lo, e.Hi) {
		return part{}, 0, false
	}
	kid, size, ok := read(e.Kids[0], deep+1)
	times := max(1, e.Hi)
	if e.Hi == noBound {
		times = e.Lo + 1
	}
	size = size*times + 1
	if !ok || size > api.MaxEre {
		return part{}, 0, false
	}
	if kid.isNothing() {
		return kid, size, true
	}
	return part{op: "rep", kids: []part{kid}, lo: e.Lo, hi: e.Hi}, size, true
}

// rightBounds tells whether a rep may have these counts.
func rightBounds(lo, hi int) bool {
	if lo < 0 || lo > api.MaxTimes {
		return false
	}
	return hi == noBound || lo <= hi && hi <= api.MaxTimes
}
