package code

import "tedder/api"

// maxPush is how many values an op lays on the stack at most.
const maxPush = 1000000

// Check tells whether code is sound.
func Check(parts []api.Part) bool {
	for _, p := range parts {
		if !sound(p) {
			return false
		}
	}
	return true
}

// sound tells whether a part is.
func sound(p api.Part) bool {
	c := checker{ops: p.Ops, counts: make([]int, len(p.Ops)), left: left(p.Kind)}
	for i := range c.counts {
		c.counts[i] = -1
	}
	right := c.come(0, 0)
	for right && len(c.todo) > 0 {
		i := c.todo[len(c.todo)-1]
		c.todo = c.todo[:len(c.todo)-1]
		right = c.pass(i)
	}
	return right
}

// left gives how many values are left at the end of a part of that kind.
func left(kind string) int {
	switch kind {
	case "pattern", "from", "to":
		return 1
	}
	return 0
}

// checker goes through the ops of a part that can be come to, each once.
type checker struct {
	ops    []api.Op
	counts []int // how many values are on the stack at each op; below 0, where none was come to
	todo   []int // ops that were come to, and aren't gone through yet
	left   int   // how many values are to be left at the end
}

// come takes up that the op at i is come to with so many values on the stack, and tells whether that may be.
func (c *checker) come(i, count int) bool {
	if i >= len(c.ops) {
		return false
	}
	if c.counts[i] < 0 {
		c.counts[i] = count
		c.todo = append(c.todo, i)
	}
	return c.counts[i] == count
}

// pass goes through the op at i, and tells whether all that is behind it may be.
func (c *checker) pass(i int) bool {
	o := c.ops[i]
	if o.Pop < 0 || o.Pop > c.counts[i] || o.Push < 0 || o.Push > maxPush {
		return false
	}
	count := c.counts[i] - o.Pop + o.Push
	if o.Last && o.Jump < 0 {
		return count == c.left
	}
	return (o.Last || c.come(i+1, count)) && (o.Jump < 0 || c.come(o.Jump, count))
}
