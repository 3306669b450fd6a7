package ere

import "tedder/api"

// tooBig stands for all sizes above MaxEre.
const tooBig = api.MaxEre + 1

// part is a piece of an expression: its tree and its size. One that is too big has no tree: nothing around it is ever answered, and its tree might take much memory.
type part struct {
	tree api.Ere
	size int
}

// sized gives the part of a tree and its size.
func sized(tree api.Ere, size int) part {
	if size > api.MaxEre {
		return part{size: tooBig}
	}
	return part{tree, size}
}

// big tells whether p is above MaxEre in size.
func (p part) big() bool {
	return p.size > api.MaxEre
}

// oneByte gives the part that stands for the byte c.
func oneByte(c byte) part {
	return part{api.Ere{Op: "set", Set: string([]byte{c})}, 1}
}

// setOf gives the part that stands for a byte of set.
func setOf(set byteSet) part {
	return part{api.Ere{Op: "set", Set: set.text()}, 1}
}

// edge gives the part of the beginning (bol) or of the end (eol).
func edge(op string) part {
	return part{api.Ere{Op: op}, 1}
}

// repeated gives the rep of p from lo to hi times.
func (p part) repeated(lo, hi int) part {
	if p.big() {
		return p
	}
	times := max(1, hi)
	if hi == noBound {
		times = lo + 1
	}
	tree := api.Ere{Op: "rep", Kids: []api.Ere{p.tree}, Lo: lo, Hi: hi}
	return sized(tree, p.size*times+1)
}

// row has the parts of a cat or an alt: their trees and the sum of their sizes.
type row struct {
	kids []api.Ere
	size int
}

// add lays p behind the others.
func (l *row) add(p part) {
	l.size = min(l.size+p.size, tooBig)
	if l.size == tooBig {
		l.kids = nil
		return
	}
	l.kids = append(l.kids, p.tree)
}

// join gives the one part that l has; else the op of all, whose size is own beyond theirs.
func (l *row) join(op string, own int) part {
	if len(l.kids) == 1 {
		return part{l.kids[0], l.size}
	}
	return sized(api.Ere{Op: op, Kids: l.kids}, l.size+own)
}
