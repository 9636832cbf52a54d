package steiner

import (
	"slices"

	"medlar/api"
	"medlar/node"
)

// The functions below take heights, sets and nodes that were checked.

// eachNode tells of each node of a set's tree, rising: the node, and those of its children that are in the tree, and that are out of it.
func eachNode(h int, l []uint64, tell func(n uint64, in, out []uint64)) {
	if len(l) == 0 {
		return
	}
	isIn := above(h, l)
	// The children of nodes that rise do so too, side 0 ahead of side 1, and deeper nodes are greater: told one by one, all of them rise.
	for nodes := []uint64{api.Root}; len(nodes) > 0; nodes = nodes[1:] {
		in, out := children(h, nodes[0], isIn)
		tell(nodes[0], in, out)
		nodes = append(nodes, in...)
	}
}

// above is what tells of a node whether it is above one of the leaves.
func above(h int, l []uint64) func(n uint64) bool {
	return func(n uint64) bool {
		s, _ := node.Leaves(h, n)
		at, _ := slices.BinarySearch(l, s.Low)
		return at < len(l) && l[at] <= s.High
	}
}

func children(h int, n uint64, isIn func(uint64) bool) (in, out []uint64) {
	for side := range 2 {
		c, e := node.Child(h, n, side)
		if e != api.OK {
			break // a leaf's node has none
		}
		if isIn(c) {
			in = append(in, c)
		} else {
			out = append(out, c)
		}
	}
	return in, out
}
