package sub

import (
	"slices"

	"medlar/api"
	"medlar/node"
)

// The functions below take heights, and subsets of them, that were checked: no call of node can fail.

func spansOf(h int, s api.Subset) []api.Span {
	all, _ := node.Leaves(h, s.I)
	if s.J == 0 {
		return []api.Span{all}
	}
	out, _ := node.Leaves(h, s.J)
	var l []api.Span
	if all.Low < out.Low {
		l = append(l, api.Span{Low: all.Low, High: out.Low - 1})
	}
	if out.High < all.High {
		l = append(l, api.Span{Low: out.High + 1, High: all.High})
	}
	return l
}

// within is what tells of a leaf whether one of the spans has it.
func within(l []api.Span) func(i uint64) bool {
	return func(i uint64) bool {
		return slices.ContainsFunc(l, func(s api.Span) bool { return s.Low <= i && i <= s.High })
	}
}

// meet asks for the first leaves of spans alone: the first leaf that two spans have together is the first one of one of them.
func meet(a, b []api.Span) bool {
	begins := func(l []api.Span, in func(uint64) bool) bool {
		return slices.ContainsFunc(l, func(s api.Span) bool { return in(s.Low) })
	}
	return begins(a, within(b)) || begins(b, within(a))
}

func stepOf(h int) int {
	step := 1
	for step*step < h {
		step++
	}
	return step
}

// cutOf is the node at which a subset with a J is to be cut, if it is not useful.
func cutOf(h int, s api.Subset) (uint64, bool) {
	step := stepOf(h)
	from, _ := node.Depth(h, s.I)
	to, _ := node.Depth(h, s.J)
	// The height is special too, but nothing is below it: only what the step divides lies between.
	next := (from/step + 1) * step
	if from%step == 0 || next >= to {
		return 0, false
	}
	k, _ := node.Up(h, s.J, next)
	return k, true
}
