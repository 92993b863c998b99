package records

import "parcel/sums"

// cursor takes what a record has off its front. Once something is not there it
// has failed for good, so that one question behind all is enough.
type cursor struct {
	left   string
	failed bool
}

func (c *cursor) number() int {
	n, length := firstNumber(c.left)
	if length == 0 {
		c.failed = true
		return 0
	}
	c.left = c.left[length:]
	return n
}

func (c *cursor) fourBytes() int {
	if len(c.left) < 4 {
		c.failed = true
		return 0
	}
	n := sums.FromFourBytes(c.left[:4])
	c.left = c.left[4:]
	return n
}

// flag takes a byte that must be 0 or 1.
func (c *cursor) flag() bool {
	if len(c.left) < 1 || c.left[0] > 1 {
		c.failed = true
		return false
	}
	set := c.left[0] == 1
	c.left = c.left[1:]
	return set
}

// end asks that nothing is left.
func (c *cursor) end() {
	if c.left != "" {
		c.failed = true
	}
}
