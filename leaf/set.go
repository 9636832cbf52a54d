package leaf

import (
	"iter"
	"slices"

	"medlar/api"
	"medlar/node"
)

func lastLeaf(h int) (uint64, api.Errno) {
	s, e := node.Leaves(h, api.Root)
	return s.High, e
}

// The sums below do not go around: what is added to was held against the last leaf.

func isSet(l []uint64, last uint64) bool {
	if len(l) > api.MaxLeaves {
		return false
	}
	least := uint64(0)
	for _, i := range l {
		if i < least || i > last {
			return false
		}
		least = i + 1
	}
	return true
}

// checkSet tells the last leaf of the height too, as whoever checks may go on to it.
func checkSet(h int, l []uint64) (uint64, api.Errno) {
	last, e := lastLeaf(h)
	if e != api.OK {
		return 0, e
	}
	if !isSet(l, last) {
		return 0, api.ErrArg
	}
	return last, api.OK
}

// find tells where leaf i is in a set, or would be, and whether it is there.
func find(h int, l []uint64, i uint64) (int, bool, api.Errno) {
	if e := Check(h, l); e != api.OK {
		return 0, false, e
	}
	// Where layer 1 tells that there is none, a leaf is here an argument that may not be.
	if _, e := node.Leaf(h, i); e != api.OK {
		return 0, false, api.ErrArg
	}
	at, is := slices.BinarySearch(l, i)
	return at, is, api.OK
}

// between goes through the spans between the leaves of a set, ahead of the first one, and behind the last one.
func between(l []uint64, last uint64) iter.Seq[api.Span] {
	return func(yield func(api.Span) bool) {
		least := uint64(0)
		for _, i := range l {
			if least < i && !yield(api.Span{Low: least, High: i - 1}) {
				return
			}
			least = i + 1
		}
		if least <= last {
			yield(api.Span{Low: least, High: last})
		}
	}
}
