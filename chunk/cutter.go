package chunk

import "tedder/api"

// cutter goes through the records of files, file behind file: next is the number, in its file, of the first record that isn't taken.
type cutter struct {
	counts     []int
	file, next int
}

// take gives the pieces of the next size records, of which there must be so many.
func (c *cutter) take(size int) []api.Piece {
	var l []api.Piece
	for size > 0 {
		count := min(size, c.counts[c.file]-c.next)
		if count <= 0 {
			c.file, c.next = c.file+1, 0
			continue
		}
		l = append(l, api.Piece{File: c.file, From: c.next, To: c.next + count})
		c.next += count
		size -= count
	}
	return l
}
