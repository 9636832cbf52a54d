package node_test

import (
	"math"
	"slices"
	"testing"

	"medlar/api"
	"medlar/node"
)

// plain is the tree as the chapter's words draw it, made node by node from Root on, to hold the answers against.
type plain struct {
	h      int
	last   uint64
	depth  map[uint64]int
	parent map[uint64]uint64
	side   map[uint64]int
	leaves []uint64
}

func draw(h int) plain {
	p := plain{h: h, depth: map[uint64]int{api.Root: 0}, parent: map[uint64]uint64{}, side: map[uint64]int{}}
	row := []uint64{api.Root}
	for d := 1; d <= h; d++ {
		var next []uint64
		for _, n := range row {
			for side, c := range []uint64{n + n, n + n + 1} {
				p.depth[c], p.parent[c], p.side[c] = d, n, side
				next = append(next, c)
			}
		}
		row = next
	}
	p.leaves = row
	p.last = row[len(row)-1]
	return p
}

// upward is n, the node above it, and so on, to Root.
func (p plain) upward(n uint64) []uint64 {
	l := []uint64{n}
	for n != api.Root {
		n = p.parent[n]
		l = append(l, n)
	}
	return l
}

func (p plain) above(a, b uint64) bool { return slices.Contains(p.upward(b), a) }

func (p plain) meet(a, b uint64) uint64 {
	for _, n := range p.upward(a) {
		if p.above(n, b) {
			return n
		}
	}
	return 0
}

func (p plain) path(a, b uint64) []int {
	var l []int
	for ; b != a; b = p.parent[b] {
		l = append([]int{p.side[b]}, l...)
	}
	return l
}

func (p plain) below(n uint64) []uint64 {
	var l []uint64
	for i, leaf := range p.leaves {
		if p.above(n, leaf) {
			l = append(l, uint64(i))
		}
	}
	return l
}

var smallHeights = []int{1, 2, 3, 4, 5}

var noHeights = []int{math.MinInt, -64, -1, 0, api.MaxHeight + 1, 63, 64, math.MaxInt}

// noNodes are numbers of no node of a height.
func noNodes(h int) []uint64 {
	return []uint64{0, 1 << (h + 1), 1<<(h+1) + 1, 1 << 34, 1 << 63, math.MaxUint64}
}

func TestCheckTellsNodes(t *testing.T) { // P1.1
	for h := 1; h <= api.MaxHeight; h++ {
		for _, n := range []uint64{api.Root, 2, 3, 1 << h, 1<<(h+1) - 1} {
			if e := node.Check(h, n); e != api.OK {
				t.Errorf("Check(%d, %d) = %d", h, n, e)
			}
		}
		for _, n := range noNodes(h) {
			if e := node.Check(h, n); e != api.ErrArg {
				t.Errorf("Check(%d, %d) = %d", h, n, e)
			}
		}
	}
	for _, h := range noHeights {
		for _, n := range []uint64{0, api.Root, 2, math.MaxUint64} {
			if e := node.Check(h, n); e != api.ErrArg {
				t.Errorf("Check(%d, %d) = %d", h, n, e)
			}
		}
	}
}

func TestLeafIsItsNode(t *testing.T) { // P1.1
	for _, h := range smallHeights {
		for i, want := range draw(h).leaves {
			if n, e := node.Leaf(h, uint64(i)); n != want || e != api.OK {
				t.Errorf("Leaf(%d, %d) = %d, %d", h, i, n, e)
			}
		}
	}
	for _, x := range []struct {
		h    int
		i, n uint64
		e    api.Errno
	}{
		{3, 5, 13, api.OK},
		{1, 0, 2, api.OK},
		{1, 1, 3, api.OK},
		{1, 2, 0, api.ErrNone},
		{32, 0, 1 << 32, api.OK},
		{32, 1<<32 - 1, 1<<33 - 1, api.OK},
		{32, 1 << 32, 0, api.ErrNone},
		{32, math.MaxUint64, 0, api.ErrNone},
		{3, 8, 0, api.ErrNone},
		{3, math.MaxUint64 - 7, 0, api.ErrNone},
	} {
		if n, e := node.Leaf(x.h, x.i); n != x.n || e != x.e {
			t.Errorf("Leaf(%d, %d) = %d, %d", x.h, x.i, n, e)
		}
	}
	for _, h := range noHeights {
		for _, i := range []uint64{0, 1, math.MaxUint64} {
			if n, e := node.Leaf(h, i); n != 0 || e != api.ErrArg {
				t.Errorf("Leaf(%d, %d) = %d, %d", h, i, n, e)
			}
		}
	}
}

func TestDepthCountsNodesAbove(t *testing.T) { // P1.1
	for _, h := range smallHeights {
		p := draw(h)
		for n := uint64(api.Root); n <= p.last; n++ {
			if d, e := node.Depth(h, n); d != p.depth[n] || e != api.OK {
				t.Errorf("Depth(%d, %d) = %d, %d", h, n, d, e)
			}
		}
	}
	for d := 0; d <= api.MaxHeight; d++ {
		for _, n := range []uint64{1 << d, 1<<(d+1) - 1} {
			if got, e := node.Depth(api.MaxHeight, n); got != d || e != api.OK {
				t.Errorf("Depth(32, %d) = %d, %d", n, got, e)
			}
		}
	}
}

func TestUpIsTheNodeAboveOfADepth(t *testing.T) { // P1.1
	for _, h := range smallHeights {
		p := draw(h)
		for n := uint64(api.Root); n <= p.last; n++ {
			for _, want := range p.upward(n) {
				if up, e := node.Up(h, n, p.depth[want]); up != want || e != api.OK {
					t.Errorf("Up(%d, %d, %d) = %d, %d", h, n, p.depth[want], up, e)
				}
			}
			for _, d := range []int{math.MinInt, -1, p.depth[n] + 1, h + 1, math.MaxInt} {
				if up, e := node.Up(h, n, d); up != 0 || e != api.ErrNone {
					t.Errorf("Up(%d, %d, %d) = %d, %d", h, n, d, up, e)
				}
			}
		}
	}
	for d := 0; d <= api.MaxHeight; d++ {
		if up, e := node.Up(api.MaxHeight, 1<<33-1, d); up != 1<<(d+1)-1 || e != api.OK {
			t.Errorf("Up(32, last, %d) = %d, %d", d, up, e)
		}
	}
}

func TestChildIsBelowOnASide(t *testing.T) { // P1.2
	for _, h := range smallHeights {
		p := draw(h)
		for n := uint64(api.Root) + 1; n <= p.last; n++ {
			if c, e := node.Child(h, p.parent[n], p.side[n]); c != n || e != api.OK {
				t.Errorf("Child(%d, %d, %d) = %d, %d", h, p.parent[n], p.side[n], c, e)
			}
		}
		for _, n := range p.leaves {
			for side := range 2 {
				if c, e := node.Child(h, n, side); c != 0 || e != api.ErrNone {
					t.Errorf("Child(%d, %d, %d) = %d, %d", h, n, side, c, e)
				}
			}
		}
	}
	for side := range 2 {
		if c, e := node.Child(32, 1<<32-1, side); c != 1<<33-2+uint64(side) || e != api.OK {
			t.Errorf("Child(32, last inner, %d) = %d, %d", side, c, e)
		}
		if c, e := node.Child(32, 1<<33-1, side); c != 0 || e != api.ErrNone {
			t.Errorf("Child(32, last, %d) = %d, %d", side, c, e)
		}
	}
}

func TestChildRefusesOtherSides(t *testing.T) { // P1.2: a side that is none is told ahead of a leaf
	for _, n := range []uint64{api.Root, 7, 8, 15} {
		for _, side := range []int{math.MinInt, -1, 2, 3, 256, math.MaxInt} {
			if c, e := node.Child(3, n, side); c != 0 || e != api.ErrArg {
				t.Errorf("Child(3, %d, %d) = %d, %d", n, side, c, e)
			}
		}
	}
}

func TestOtherIsBesideIt(t *testing.T) { // P1.2
	for _, h := range smallHeights {
		p := draw(h)
		for n := uint64(api.Root) + 1; n <= p.last; n++ {
			o, e := node.Other(h, n)
			if e != api.OK || o == n || p.parent[o] != p.parent[n] {
				t.Errorf("Other(%d, %d) = %d, %d", h, n, o, e)
			}
		}
	}
	for h := 1; h <= api.MaxHeight; h++ {
		if o, e := node.Other(h, api.Root); o != 0 || e != api.ErrNone {
			t.Errorf("Other(%d, Root) = %d, %d", h, o, e)
		}
		if o, e := node.Other(h, 1<<(h+1)-1); o != 1<<(h+1)-2 || e != api.OK {
			t.Errorf("Other(%d, last) = %d, %d", h, o, e)
		}
	}
}

func TestAboveMeetAndPathOfAllPairs(t *testing.T) { // P1.3
	for _, h := range smallHeights {
		p := draw(h)
		for a := uint64(api.Root); a <= p.last; a++ {
			for b := uint64(api.Root); b <= p.last; b++ {
				checkPair(t, p, a, b)
			}
		}
	}
}

func checkPair(t *testing.T, p plain, a, b uint64) {
	t.Helper()
	above := p.above(a, b)
	if is, e := node.Above(p.h, a, b); is != above || e != api.OK {
		t.Errorf("Above(%d, %d, %d) = %v, %d", p.h, a, b, is, e)
	}
	if m, e := node.Meet(p.h, a, b); m != p.meet(a, b) || e != api.OK {
		t.Errorf("Meet(%d, %d, %d) = %d, %d", p.h, a, b, m, e)
	}
	var want []int
	wantE := api.ErrNone
	if above {
		want, wantE = p.path(a, b), api.OK
	}
	if l, e := node.Path(p.h, a, b); !slices.Equal(l, want) || e != wantE {
		t.Errorf("Path(%d, %d, %d) = %v, %d", p.h, a, b, l, e)
	}
}

func TestAboveMeetAndPathOfTheHighestTree(t *testing.T) { // P1.3
	const last = 1<<33 - 1
	const first = 1 << 32
	ones, zeros := make([]int, 32), make([]int, 32)
	for i := range ones {
		ones[i] = 1
	}
	for _, x := range []struct {
		a, b, meet uint64
		above      bool
		path       []int
		e          api.Errno
	}{
		{api.Root, last, api.Root, true, ones, api.OK},
		{api.Root, first, api.Root, true, zeros, api.OK},
		{last, api.Root, api.Root, false, nil, api.ErrNone},
		{first, last, api.Root, false, nil, api.ErrNone},
		{last - 1, last, 1<<32 - 1, false, nil, api.ErrNone},
		{last, last, last, true, nil, api.OK},
		{1 << 31, first + 1, 1 << 31, true, []int{1}, api.OK},
		{5<<29 + 1, 5 << 30, 5 << 28, false, nil, api.ErrNone},
	} {
		is, e := node.Above(32, x.a, x.b)
		m, f := node.Meet(32, x.a, x.b)
		l, g := node.Path(32, x.a, x.b)
		if is != x.above || m != x.meet || !slices.Equal(l, x.path) || e != api.OK || f != api.OK || g != x.e {
			t.Errorf("%d, %d: got %v, %d, %v, %d, %d, %d", x.a, x.b, is, m, l, e, f, g)
		}
	}
}

func TestExamplesOfTheChapter(t *testing.T) { // P1.1, P1.3
	n, e := node.Leaf(3, 5)
	m, f := node.Meet(3, n, 12)
	if n != 13 || m != 6 || e != api.OK || f != api.OK {
		t.Errorf("got %d, %d, %d, %d", n, m, e, f)
	}
}

func TestLeavesAreThoseBelow(t *testing.T) { // P1.4
	for _, h := range smallHeights {
		p := draw(h)
		for n := uint64(api.Root); n <= p.last; n++ {
			l := p.below(n)
			s, e := node.Leaves(h, n)
			if e != api.OK || s.Low != l[0] || s.High != l[len(l)-1] || s.High-s.Low != uint64(len(l)-1) {
				t.Errorf("Leaves(%d, %d) = %v, %d", h, n, s, e)
			}
		}
	}
	for _, x := range []struct {
		n, low, high uint64
	}{
		{api.Root, 0, 1<<32 - 1},
		{2, 0, 1<<31 - 1},
		{3, 1 << 31, 1<<32 - 1},
		{1<<32 - 1, 1<<32 - 2, 1<<32 - 1},
		{1 << 32, 0, 0},
		{1<<33 - 1, 1<<32 - 1, 1<<32 - 1},
	} {
		if s, e := node.Leaves(32, x.n); s != (api.Span{Low: x.low, High: x.high}) || e != api.OK {
			t.Errorf("Leaves(32, %d) = %v, %d", x.n, s, e)
		}
	}
}

func TestLeavesLieWithinOrApart(t *testing.T) { // P1.5
	for _, h := range smallHeights {
		last := draw(h).last
		for a := uint64(api.Root); a <= last; a++ {
			for b := uint64(api.Root); b <= last; b++ {
				sa, _ := node.Leaves(h, a)
				sb, _ := node.Leaves(h, b)
				down, _ := node.Above(h, a, b)
				up, _ := node.Above(h, b, a)
				if within := sa.Low <= sb.Low && sb.High <= sa.High; within != down {
					t.Errorf("%d, %d, %d: %v within %v, but above is %v", h, a, b, sb, sa, down)
				}
				if apart := sa.High < sb.Low || sb.High < sa.Low; apart != (!down && !up) {
					t.Errorf("%d, %d, %d: %v, %v, above is %v, %v", h, a, b, sa, sb, down, up)
				}
			}
		}
	}
}

func TestPathLeadsThere(t *testing.T) { // P1.5
	for _, x := range []struct {
		h    int
		a, b uint64
	}{{1, 1, 3}, {3, 1, 13}, {3, 6, 13}, {5, 2, 41}, {32, 1, 1<<33 - 1}, {32, 1, 0x1a5a5f00d}, {32, 0x1a5, 0x1a5a5f00d}, {32, 1 << 32, 1 << 32}} {
		l, e := node.Path(x.h, x.a, x.b)
		if e != api.OK {
			t.Errorf("Path(%d, %d, %d): %d", x.h, x.a, x.b, e)
		}
		n := x.a
		for _, side := range l {
			n, e = node.Child(x.h, n, side)
			if e != api.OK {
				t.Errorf("Path(%d, %d, %d): Child %d", x.h, x.a, x.b, e)
			}
		}
		if n != x.b {
			t.Errorf("Path(%d, %d, %d) leads to %d", x.h, x.a, x.b, n)
		}
	}
}

func TestPathIsNewEachTime(t *testing.T) { // R2
	first, _ := node.Path(3, 1, 13)
	for i := range first {
		first[i] = 9
	}
	if l, e := node.Path(3, 1, 13); !slices.Equal(l, []int{1, 0, 1}) || e != api.OK {
		t.Errorf("got %v, %d", l, e)
	}
}

// refuse asks of every call that it tells ErrArg, and zeros, of a node n that is none, whichever else it is handed.
func refuse(t *testing.T, h int, n uint64) {
	t.Helper()
	if d, e := node.Depth(h, n); d != 0 || e != api.ErrArg {
		t.Errorf("Depth(%d, %d) = %d, %d", h, n, d, e)
	}
	for _, k := range []int{math.MinInt, -1, 0, 1, 2, 40, math.MaxInt} {
		if u, e := node.Up(h, n, k); u != 0 || e != api.ErrArg {
			t.Errorf("Up(%d, %d, %d) = %d, %d", h, n, k, u, e)
		}
		if c, e := node.Child(h, n, k); c != 0 || e != api.ErrArg {
			t.Errorf("Child(%d, %d, %d) = %d, %d", h, n, k, c, e)
		}
	}
	if o, e := node.Other(h, n); o != 0 || e != api.ErrArg {
		t.Errorf("Other(%d, %d) = %d, %d", h, n, o, e)
	}
	if s, e := node.Leaves(h, n); s != (api.Span{}) || e != api.ErrArg {
		t.Errorf("Leaves(%d, %d) = %v, %d", h, n, s, e)
	}
	for _, m := range []uint64{0, api.Root, 2, 3, n} {
		refusePair(t, h, n, m)
		refusePair(t, h, m, n)
	}
}

func refusePair(t *testing.T, h int, a, b uint64) {
	t.Helper()
	if is, e := node.Above(h, a, b); is || e != api.ErrArg {
		t.Errorf("Above(%d, %d, %d) = %v, %d", h, a, b, is, e)
	}
	if m, e := node.Meet(h, a, b); m != 0 || e != api.ErrArg {
		t.Errorf("Meet(%d, %d, %d) = %d, %d", h, a, b, m, e)
	}
	if l, e := node.Path(h, a, b); len(l) != 0 || e != api.ErrArg {
		t.Errorf("Path(%d, %d, %d) = %v, %d", h, a, b, l, e)
	}
}

func TestNoSuchHeightOrNode(t *testing.T) { // P1.1 to P1.4
	for _, h := range noHeights {
		for _, n := range []uint64{0, api.Root, 2, 3, 1 << 33, math.MaxUint64} {
			refuse(t, h, n)
		}
	}
	for h := 1; h <= api.MaxHeight; h++ {
		for _, n := range noNodes(h) {
			refuse(t, h, n)
		}
	}
}
