// Package node is layer 1: see shared/doc/01-node.md.
package node

import (
	"math/bits"

	"medlar/api"
)

// Check tells whether there is a node, Leaf is a leaf's, Depth how deep it is, Up the one above it of a depth.
func Check(h int, n uint64) api.Errno {
	if !isHeight(h) || n < api.Root || n > lastNode(h) {
		return api.ErrArg
	}
	return api.OK
}

func Leaf(h int, i uint64) (uint64, api.Errno) {
	if !isHeight(h) {
		return 0, api.ErrArg
	}
	// Held against the count ahead of the sum, which may go around.
	if i >= firstLeaf(h) {
		return 0, api.ErrNone
	}
	return firstLeaf(h) + i, api.OK
}

func Depth(h int, n uint64) (int, api.Errno) {
	if e := Check(h, n); e != api.OK {
		return 0, e
	}
	return depthOf(n), api.OK
}

func Up(h int, n uint64, depth int) (uint64, api.Errno) {
	if e := Check(h, n); e != api.OK {
		return 0, e
	}
	if depth < 0 || depth > depthOf(n) {
		return 0, api.ErrNone
	}
	return upTo(n, depth), api.OK
}

// Child is one below it, Other the other one below the one above it, Above tells whether one is above another one, Meet is the deepest one above both.
func Child(h int, n uint64, side int) (uint64, api.Errno) {
	if e := Check(h, n); e != api.OK {
		return 0, e
	}
	if side != 0 && side != 1 {
		return 0, api.ErrArg
	}
	if n >= firstLeaf(h) {
		return 0, api.ErrNone
	}
	return 2*n + uint64(side), api.OK
}

func Other(h int, n uint64) (uint64, api.Errno) {
	if e := Check(h, n); e != api.OK {
		return 0, e
	}
	if n == api.Root {
		return 0, api.ErrNone
	}
	return n ^ 1, api.OK
}

func Above(h int, a, b uint64) (bool, api.Errno) {
	if e := checkBoth(h, a, b); e != api.OK {
		return false, e
	}
	return isAbove(a, b), api.OK
}

func Meet(h int, a, b uint64) (uint64, api.Errno) {
	if e := checkBoth(h, a, b); e != api.OK {
		return 0, e
	}
	depth := min(depthOf(a), depthOf(b))
	a, b = upTo(a, depth), upTo(b, depth)
	// Of one depth, two nodes part at the highest bit in which they are not the same.
	return a >> bits.Len64(a^b), api.OK
}

// Leaves are those below it, Path is how one comes from one to another one.
func Leaves(h int, n uint64) (api.Span, api.Errno) {
	if e := Check(h, n); e != api.OK {
		return api.Span{}, e
	}
	down := h - depthOf(n)
	low := n<<down - firstLeaf(h)
	return api.Span{Low: low, High: low + (1<<down - 1)}, api.OK
}

func Path(h int, a, b uint64) ([]int, api.Errno) {
	if e := checkBoth(h, a, b); e != api.OK {
		return nil, e
	}
	if !isAbove(a, b) {
		return nil, api.ErrNone
	}
	from := depthOf(a)
	sides := make([]int, depthOf(b)-from)
	for k := range len(sides) {
		sides[k] = sideOf(upTo(b, from+k+1))
	}
	return sides, api.OK
}
