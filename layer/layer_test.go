package layer_test

import (
	"math"
	"slices"
	"testing"

	"medlar/api"
	"medlar/diff"
	"medlar/layer"
	"medlar/leaf"
	"medlar/sub"
	"medlar/whole"
)

const lastOf32 = 1<<32 - 1

// topSmall is up to which height each set of leaves is tried, topSubsets up to which each subset is.
const (
	topSmall   = 4
	topSubsets = 5
)

var schemes = []int{api.WholeS, api.DiffS, api.LayerS}

var noSchemes = []int{math.MinInt, -1, 0, 4, 5, 1<<32 + 1, 1<<32 + 3, math.MaxInt}

var noHeights = []int{math.MinInt, -64, -1, 0, api.MaxHeight + 1, 63, 64, math.MaxInt}

func noLeaves(h int) []uint64 {
	return []uint64{1 << h, 1<<h + 1, 1 << (h + 1), 1 << 33, 1 << 63, math.MaxUint64}
}

// members is the set that the bits of a number tell: leaf i is in it, if bit i is 1.
func members(h int, bits uint64) []uint64 {
	var l []uint64
	for i := range uint64(1) << h {
		if bits>>i&1 == 1 {
			l = append(l, i)
		}
	}
	return l
}

// stepped is n leaves, from one on, each a step from the one ahead of it.
func stepped(n int, from, step uint64) []uint64 {
	l := make([]uint64, n)
	for k := range l {
		l[k] = from + uint64(k)*step
	}
	return l
}

// scattered is about n leaves of a height, all over it.
func scattered(h, n int) []uint64 {
	var l []uint64
	for k := range uint64(n) {
		l = append(l, (k*0x9e3779b97f4a7c15+0x5851f42d)>>(64-h))
	}
	slices.Sort(l)
	return slices.Compact(l)
}

// pairs are the subsets that numbers tell, two by two: the one's leaves, but the other one's.
func pairs(nodes ...uint64) []api.Subset {
	var l []api.Subset
	for p := range slices.Chunk(nodes, 2) {
		l = append(l, api.Subset{I: p[0], J: p[1]})
	}
	return l
}

// upward is n, the node above it, and so on, to Root.
func upward(n uint64) []uint64 {
	var l []uint64
	for ; n >= api.Root; n /= 2 {
		l = append(l, n)
	}
	return l
}

func depth(n uint64) int { return len(upward(n)) - 1 }

func isAbove(a, b uint64) bool { return slices.Contains(upward(b), a) }

// isSubset is layer 8's word: I is a node, J is 0, or another node, that I is above.
func isSubset(h int, s api.Subset) bool {
	end := uint64(1) << (h + 1)
	if s.I < api.Root || s.I >= end || s.J >= end {
		return false
	}
	return s.J == 0 || s.J != s.I && isAbove(s.I, s.J)
}

// special are the depths that layer 8's words tell: 0, each that the step divides, and the height.
func special(h int) []int {
	step := 0
	for step*step < h {
		step++
	}
	var l []int
	for d := range h + 1 {
		if d == 0 || d == h || d%step == 0 {
			l = append(l, d)
		}
	}
	return l
}

// between are the special depths above I's, and below J's.
func between(h int, s api.Subset) []int {
	return slices.DeleteFunc(special(h), func(d int) bool { return d <= depth(s.I) || d >= depth(s.J) })
}

func useful(h int, s api.Subset) bool {
	if s.J == 0 {
		return s.I == api.Root
	}
	return slices.Contains(special(h), depth(s.I)) || len(between(h, s)) == 0
}

// split is the subset, or, if it has a J and is not useful, the two of which it is made up.
func split(h int, s api.Subset) []api.Subset {
	if s.J == 0 || useful(h, s) {
		return []api.Subset{s}
	}
	k := s.J
	for depth(k) > between(h, s)[0] {
		k /= 2
	}
	return pairs(s.I, k, k, s.J)
}

func comesAfter(a, b api.Subset) bool { return a.I > b.I || a.I == b.I && a.J > b.J }

// ordered are the subsets in order, put among those ahead of them one by one.
func ordered(l []api.Subset) []api.Subset {
	var o []api.Subset
	for _, s := range l {
		at := len(o)
		for at > 0 && comesAfter(o[at-1], s) {
			at--
		}
		o = slices.Insert(o, at, s)
	}
	return o
}

// may is the chapter's word: which subsets may be of a scheme.
func may(h, scheme int, s api.Subset) bool {
	return map[int]bool{
		api.WholeS: s.J == 0,
		api.DiffS:  s.J != 0 || s.I == api.Root,
		api.LayerS: useful(h, s),
	}[scheme]
}

// plainCover is the cover by the chapter's words, out of those of the layers below.
func plainCover(h, scheme int, l []uint64) []api.Subset {
	if scheme == api.WholeS {
		c, _ := whole.Cover(h, l)
		return c
	}
	c, _ := diff.Cover(h, l)
	if scheme == api.DiffS {
		return c
	}
	var parts []api.Subset
	for _, s := range c {
		parts = append(parts, split(h, s)...)
	}
	return ordered(parts)
}

// eachSet hands in each set of leaves of heights 1 to topSmall.
func eachSet(do func(h int, l []uint64)) {
	for h := 1; h <= topSmall; h++ {
		for bits := range uint64(1) << (1 << h) {
			do(h, members(h, bits))
		}
	}
}

// eachFar hands in sets of every height: none, one leaf, few side by side, at the ends, and far down, and as many as may be.
func eachFar(do func(h int, l []uint64)) {
	for h := 1; h <= api.MaxHeight; h++ {
		last := uint64(1)<<h - 1
		for _, l := range [][]uint64{nil, {0}, {last}, {last / 3}, {0, 1}, {0, last}, {last - 1, last}, {last / 2, last/2 + 1}} {
			do(h, l)
		}
		if h >= 4 {
			do(h, []uint64{last/3 - 1, last / 3, last/3 + 3})
			do(h, []uint64{0, 1, 3, last / 2, last/2 + 1, last - 3, last})
		}
		do(h, scattered(h, 40))
		if h >= 10 {
			for _, l := range [][]uint64{stepped(1024, 0, 1), stepped(1024, last-1023, 1), stepped(1024, 0, 1<<(h-10)), stepped(512, 1, 2), scattered(h, 1000)} {
				do(h, l)
			}
		}
	}
}

// eachSubset hands in each two numbers that are nodes, or a few above them, of heights 1 to topSubsets.
func eachSubset(do func(h int, s api.Subset)) {
	for h := 1; h <= topSubsets; h++ {
		for i := range uint64(1)<<(h+1) + 3 {
			for j := range uint64(1)<<(h+1) + 3 {
				do(h, api.Subset{I: i, J: j})
			}
		}
	}
}

// eachFarSubset hands in subsets of every height, of every depth of I, and every deeper one of J: at the left, at the right, and within.
func eachFarSubset(do func(h int, s api.Subset)) {
	for h := 1; h <= api.MaxHeight; h++ {
		for from := 0; from <= h; from++ {
			for _, bits := range []uint64{0, math.MaxUint64, 0x5a5ac3c396965a3c, 0xa5a53c3c6969a5c3} {
				i := uint64(1)<<from + bits>>(64-from)
				do(h, api.Subset{I: i})
				for to := from + 1; to <= h; to++ {
					do(h, api.Subset{I: i, J: uint64(1)<<to + bits>>(64-to)})
				}
			}
		}
	}
}

func checkCover(t *testing.T, h int, l []uint64) {
	t.Helper()
	for _, scheme := range schemes {
		got, e := layer.Cover(h, scheme, l)
		if want := plainCover(h, scheme, l); !slices.Equal(got, want) || e != api.OK {
			t.Errorf("Cover(%d, %d, %v) = %v, %d, not %v", h, scheme, l, got, e, want)
		}
		// P12.4: each of them may be of the scheme, by the words and by May, and Bound tells no fewer.
		for _, s := range got {
			if is, e := layer.May(h, scheme, s); !is || e != api.OK || !may(h, scheme, s) {
				t.Errorf("Cover(%d, %d, %v) has %v: May tells %v, %d", h, scheme, l, s, is, e)
			}
		}
		if most, e := layer.Bound(h, scheme, len(l)); uint64(len(got)) > most || e != api.OK {
			t.Errorf("%d, %d, %d leaves: %d subsets, Bound tells %d, %d", h, scheme, len(l), len(got), most, e)
		}
	}
}

func TestTheWordsAreThoseOfLayer8(t *testing.T) { // what the tests here lean on
	for h, want := range map[int][]int{1: {0, 1}, 2: {0, 2}, 3: {0, 2, 3}, 4: {0, 2, 4}, 5: {0, 3, 5}, 31: {0, 6, 12, 18, 24, 30, 31}, 32: {0, 6, 12, 18, 24, 30, 32}} {
		if got := special(h); !slices.Equal(got, want) {
			t.Errorf("%d: got %v", h, got)
		}
	}
	eachFarSubset(func(h int, s api.Subset) {
		if !isSubset(h, s) {
			t.Errorf("%d: %v is none", h, s)
		}
	})
}

func TestEachSetOfSmallHeights(t *testing.T) { // P12.1, P12.4
	eachSet(func(h int, l []uint64) { checkCover(t, h, l) })
}

func TestSetsOfGreatHeights(t *testing.T) { // P12.1, P12.4
	eachFar(func(h int, l []uint64) {
		if e := leaf.Check(h, l); e != api.OK {
			t.Fatalf("%d, %d leaves: no set", h, len(l))
		}
		checkCover(t, h, l)
	})
}

func TestCoverByUsefulOnesByHand(t *testing.T) { // P12.1: what is told, and in which order
	for _, x := range []struct {
		what string
		h    int
		l    []uint64
		want []api.Subset
	}{
		{"the chapter's example", 4, []uint64{0}, pairs(1, 16)},
		{"an empty set", 4, nil, pairs(1, 0)},
		{"an empty set, least height", 1, []uint64{}, pairs(1, 0)},
		{"an empty set, greatest height", 32, nil, pairs(1, 0)},
		{"the last leaf", 4, []uint64{15}, pairs(1, 31)},
		{"one within", 4, []uint64{5}, pairs(1, 21)},
		{"the first leaf, least height", 1, []uint64{0}, pairs(1, 2)},
		{"the last leaf, least height", 1, []uint64{1}, pairs(1, 3)},
		{"all leaves, least height", 1, []uint64{0, 1}, nil},
		{"all leaves", 3, stepped(8, 0, 1), nil},
		{"all leaves, MaxLeaves of them", 10, stepped(1024, 0, 1), nil},
		{"all are useful: Root, and special depths", 4, []uint64{0, 4}, pairs(1, 2, 4, 16, 5, 20)},
		{"all are useful: nothing special lies between", 4, []uint64{0, 2, 12, 15}, pairs(2, 4, 3, 7, 8, 16, 9, 18, 14, 28, 15, 31)},
		{"all are useful: no depth but Root's and the leaves' is special", 2, []uint64{0, 3}, pairs(2, 4, 3, 7)},
		{"both are split: the parts of two lie among each other", 4, []uint64{0, 8}, pairs(2, 4, 3, 6, 4, 16, 6, 24)},
		{"both are split: down to a node above two leaves", 4, []uint64{0, 1, 8}, pairs(2, 4, 3, 6, 4, 8, 6, 24)},
		{"one is split: its parts lie around useful ones", 4, []uint64{0, 8, 10}, pairs(2, 4, 3, 6, 4, 16, 12, 24, 13, 26)},
		{"the right one is split", 4, []uint64{0, 4, 8}, pairs(3, 6, 4, 16, 5, 20, 6, 24)},
		{"right above the leaves", 3, []uint64{0, 4}, pairs(2, 4, 3, 6, 4, 8, 6, 12)},
		{"the step does not divide the height", 5, []uint64{0, 16}, pairs(2, 8, 3, 12, 8, 32, 12, 48)},
		{"split far down", 5, []uint64{0, 8}, pairs(1, 2, 4, 8, 5, 10, 8, 32, 10, 40)},
		{"both ends, greatest height", 32, []uint64{0, lastOf32}, pairs(2, 1<<6, 3, 1<<7-1, 1<<6, 1<<32, 1<<7-1, 1<<33-1)},
		{"the two in the middle, greatest height", 32, []uint64{1<<31 - 1, 1 << 31}, pairs(2, 95, 3, 96, 95, 1<<32+1<<31-1, 96, 1<<32+1<<31)},
		{"split at the deepest special depth above the leaves", 32, []uint64{0, 1 << 5}, pairs(1, 1<<26, 1<<27, 1<<30, 1<<27+1, 1<<30+8, 1<<30, 1<<32, 1<<30+8, 1<<32+32)},
		{"useful below the deepest special depth", 32, []uint64{0, 2}, pairs(1, 1<<30, 1<<31, 1<<32, 1<<31+1, 1<<32+2)},
	} {
		if c, e := layer.Cover(x.h, api.LayerS, x.l); !slices.Equal(c, x.want) || e != api.OK {
			t.Errorf("%s: got %v, %d", x.what, c, e)
		}
	}
}

func TestCoverByTheOtherSchemesByHand(t *testing.T) { // P12.1
	for _, x := range []struct {
		what      string
		h, scheme int
		l         []uint64
		want      []api.Subset
	}{
		{"layer 10's example", 2, api.WholeS, []uint64{1}, pairs(3, 0, 4, 0)},
		{"layer 11's example", 3, api.DiffS, []uint64{0, 1}, pairs(1, 4)},
		{"an empty set, whole", 4, api.WholeS, nil, pairs(1, 0)},
		{"an empty set, differences", 4, api.DiffS, nil, pairs(1, 0)},
		{"the first leaf, whole", 4, api.WholeS, []uint64{0}, pairs(3, 0, 5, 0, 9, 0, 17, 0)},
		{"the first leaf, differences", 4, api.DiffS, []uint64{0}, pairs(1, 16)},
		{"the last leaf, whole", 4, api.WholeS, []uint64{15}, pairs(2, 0, 6, 0, 14, 0, 30, 0)},
		{"the last leaf, differences", 4, api.DiffS, []uint64{15}, pairs(1, 31)},
		{"one within, whole", 4, api.WholeS, []uint64{5}, pairs(3, 0, 4, 0, 11, 0, 20, 0)},
		{"one within, differences", 4, api.DiffS, []uint64{5}, pairs(1, 21)},
		{"all leaves, whole", 3, api.WholeS, stepped(8, 0, 1), nil},
		{"all leaves, differences", 3, api.DiffS, stepped(8, 0, 1), nil},
		{"what useful ones split, whole", 4, api.WholeS, []uint64{0, 8}, pairs(5, 0, 7, 0, 9, 0, 13, 0, 17, 0, 25, 0)},
		{"what useful ones split, differences", 4, api.DiffS, []uint64{0, 8}, pairs(2, 16, 3, 24)},
		{"both ends, greatest height, differences", 32, api.DiffS, []uint64{0, lastOf32}, pairs(2, 1<<32, 3, 1<<33-1)},
	} {
		if c, e := layer.Cover(x.h, x.scheme, x.l); !slices.Equal(c, x.want) || e != api.OK {
			t.Errorf("%s: got %v, %d", x.what, c, e)
		}
	}
}

func TestOrderByHand(t *testing.T) { // P12.1
	for _, x := range []struct {
		what    string
		l, want []api.Subset
	}{
		{"none", nil, nil},
		{"none at all", []api.Subset{}, nil},
		{"one", pairs(2, 5), pairs(2, 5)},
		{"by I", pairs(3, 0, 1, 0, 2, 0), pairs(1, 0, 2, 0, 3, 0)},
		{"by I, then by J", pairs(2, 5, 1, 0, 2, 4), pairs(1, 0, 2, 4, 2, 5)},
		{"by I ahead of J", pairs(1, 9, 2, 5, 1, 8), pairs(1, 8, 1, 9, 2, 5)},
		{"in order", pairs(1, 0, 1, 2, 2, 4), pairs(1, 0, 1, 2, 2, 4)},
		{"the other way around", pairs(2, 4, 1, 2, 1, 0), pairs(1, 0, 1, 2, 2, 4)},
		{"some twice", pairs(2, 4, 1, 0, 2, 4, 1, 0, 1, 2), pairs(1, 0, 1, 0, 1, 2, 2, 4, 2, 4)},
		{"all the same", pairs(2, 4, 2, 4, 2, 4), pairs(2, 4, 2, 4, 2, 4)},
		{"subsets of no height", pairs(5, 2, 0, 7, math.MaxUint64, 1, 0, 0, 4, 4, 1<<40, 1<<33), pairs(0, 0, 0, 7, 4, 4, 5, 2, 1<<40, 1<<33, math.MaxUint64, 1)},
		{"numbers beyond an int", pairs(1<<63, 0, 1<<63-1, 0, 7, 1<<63, 7, 1<<63-1, math.MaxUint64, math.MaxUint64, 0, math.MaxUint64), pairs(0, math.MaxUint64, 7, 1<<63-1, 7, 1<<63, 1<<63-1, 0, 1<<63, 0, math.MaxUint64, math.MaxUint64)},
	} {
		if got := layer.Order(x.l); !slices.Equal(got, x.want) {
			t.Errorf("%s: got %v", x.what, got)
		}
	}
}

func TestOrderOfWhateverOrder(t *testing.T) { // P12.1: each list of up to five of six subsets, and long ones
	of := pairs(1, 0, 1, 3, 2, 0, 2, 4, 0, 9, math.MaxUint64, 1)
	check := func(l []api.Subset) {
		t.Helper()
		if got, want := layer.Order(l), ordered(l); !slices.Equal(got, want) {
			t.Errorf("Order(%v) = %v, not %v", l, got, want)
		}
	}
	lists := [][]api.Subset{nil}
	for range 5 {
		var longer [][]api.Subset
		for _, l := range lists {
			for _, s := range of {
				longer = append(longer, append(slices.Clone(l), s))
			}
		}
		for _, l := range longer {
			check(l)
		}
		lists = longer
	}
	var long []api.Subset
	for k := range uint64(1500) {
		x := k * 0x9e3779b97f4a7c15
		long = append(long, api.Subset{I: x >> 58, J: x << 8 >> 60})
	}
	check(long)
}

func TestBoundByHand(t *testing.T) { // P12.2
	for _, x := range []struct {
		what                      string
		h, many                   int
		byWhole, byDiff, byUseful uint64
	}{
		{"none", 4, 0, 1, 1, 1},
		{"none, least height", 1, 0, 1, 1, 1},
		{"none, greatest height", 32, 0, 1, 1, 1},
		{"one", 4, 1, 4, 1, 2},
		{"one, least height", 1, 1, 1, 1, 2},
		{"one, greatest height", 32, 1, 32, 1, 2},
		{"two", 4, 2, 6, 3, 6},
		{"three", 4, 3, 9, 5, 10},
		{"as many as there are", 4, 16, 0, 31, 62},
		{"as many as there are, least height", 1, 2, 0, 3, 6},
		{"two, greatest height", 32, 2, 62, 3, 6},
		{"MaxLeaves, less 1", 32, 1023, 1023 * 23, 2045, 4090},
		{"MaxLeaves", 32, 1024, 1024 * 22, 2047, 4094},
		{"MaxLeaves, all there are", 10, 1024, 0, 2047, 4094},
	} {
		for scheme, want := range map[int]uint64{api.WholeS: x.byWhole, api.DiffS: x.byDiff, api.LayerS: x.byUseful} {
			if n, e := layer.Bound(x.h, scheme, x.many); n != want || e != api.OK {
				t.Errorf("%s: Bound(%d, %d, %d) = %d, %d", x.what, x.h, scheme, x.many, n, e)
			}
		}
	}
}

func TestBoundOfEveryHeight(t *testing.T) { // P12.2
	for h := 1; h <= api.MaxHeight; h++ {
		for many := 0; many <= 1100; many++ {
			byUseful := uint64(many+many+many+many) - 2
			if many == 0 {
				byUseful = 1
			}
			for _, scheme := range schemes {
				of := map[int]func() (uint64, api.Errno){
					api.WholeS: func() (uint64, api.Errno) { return whole.Bound(h, many) },
					api.DiffS:  func() (uint64, api.Errno) { return diff.Bound(h, many) },
					api.LayerS: func() (uint64, api.Errno) { return byUseful, api.OK },
				}
				want, wantE := of[scheme]()
				if many > 1024 || many > 1<<h {
					want, wantE = 0, api.ErrArg
				}
				if n, e := layer.Bound(h, scheme, many); n != want || e != wantE {
					t.Errorf("Bound(%d, %d, %d) = %d, %d, not %d, %d", h, scheme, many, n, e, want, wantE)
				}
			}
		}
	}
}

func refuseBound(t *testing.T, h, scheme, many int) {
	t.Helper()
	if n, e := layer.Bound(h, scheme, many); n != 0 || e != api.ErrArg {
		t.Errorf("Bound(%d, %d, %d) = %d, %d", h, scheme, many, n, e)
	}
}

func TestBoundRefuses(t *testing.T) { // P12.2
	for h := 1; h <= api.MaxHeight; h++ {
		for _, many := range []int{math.MinInt, math.MinInt + 1, -1025, -1, min(1<<h, 1024) + 1, 1025, 2048, 1 << 32, 1<<32 + 1, 1 << 62, math.MaxInt} {
			for _, scheme := range schemes {
				refuseBound(t, h, scheme, many)
			}
		}
		for _, scheme := range noSchemes {
			for _, many := range []int{-1, 0, 1, 2, 1024, 1025} {
				refuseBound(t, h, scheme, many)
			}
		}
	}
	for _, h := range noHeights {
		for _, many := range []int{math.MinInt, -1, 0, 1, 2, 1024, 1025, math.MaxInt} {
			for _, scheme := range slices.Concat(schemes, noSchemes) {
				refuseBound(t, h, scheme, many)
			}
		}
	}
}

func TestMayByHand(t *testing.T) { // P12.3
	for _, x := range []struct {
		what                      string
		h                         int
		s                         api.Subset
		byWhole, byDiff, byUseful bool
	}{
		{"Root, without a J", 4, api.Subset{I: 1}, true, true, true},
		{"Root, without a J, greatest height", 32, api.Subset{I: 1}, true, true, true},
		{"another node, without a J", 4, api.Subset{I: 2}, true, false, false},
		{"one of a special depth, without a J", 4, api.Subset{I: 4}, true, false, false},
		{"a leaf's node, without a J", 4, api.Subset{I: 31}, true, false, false},
		{"a child of Root, least height", 1, api.Subset{I: 3}, true, false, false},
		{"Root but a leaf", 4, api.Subset{I: 1, J: 16}, false, true, true},
		{"Root but a leaf, least height", 1, api.Subset{I: 1, J: 2}, false, true, true},
		{"from a special depth", 4, api.Subset{I: 4, J: 16}, false, true, true},
		{"a special depth lies between", 4, api.Subset{I: 2, J: 16}, false, true, false},
		{"down to a special depth", 4, api.Subset{I: 2, J: 5}, false, true, true},
		{"beyond a special depth by one", 4, api.Subset{I: 2, J: 8}, false, true, false},
		{"right below", 4, api.Subset{I: 8, J: 17}, false, true, true},
		{"a special depth lies between, greatest height", 32, api.Subset{I: 3, J: 1<<33 - 1}, false, true, false},
		{"right below, greatest height", 32, api.Subset{I: 1<<32 - 1, J: 1<<33 - 1}, false, true, true},
	} {
		for scheme, want := range map[int]bool{api.WholeS: x.byWhole, api.DiffS: x.byDiff, api.LayerS: x.byUseful} {
			if is, e := layer.May(x.h, scheme, x.s); is != want || e != api.OK {
				t.Errorf("%s: May(%d, %d, %v) = %v, %d", x.what, x.h, scheme, x.s, is, e)
			}
		}
	}
}

func TestMayTellsOfEachSubset(t *testing.T) { // P12.3
	check := func(h int, s api.Subset) {
		for _, scheme := range schemes {
			want, wantE := false, api.ErrArg
			if isSubset(h, s) {
				want, wantE = may(h, scheme, s), api.OK
			}
			if is, e := layer.May(h, scheme, s); is != want || e != wantE {
				t.Errorf("May(%d, %d, %v) = %v, %d", h, scheme, s, is, e)
			}
		}
	}
	eachSubset(check)
	eachFarSubset(check)
}

func TestMayRefuses(t *testing.T) { // P12.3
	refuse := func(h, scheme int, s api.Subset) {
		t.Helper()
		if is, e := layer.May(h, scheme, s); is || e != api.ErrArg {
			t.Errorf("May(%d, %d, %v) = %v, %d", h, scheme, s, is, e)
		}
	}
	for h := 1; h <= api.MaxHeight; h++ {
		end := uint64(1) << (h + 1)
		for _, s := range pairs(0, 0, 0, 2, 1, 1, 2, 1, 2, 2, 2, 3, 3, 2, end, 0, end, 1, 1, end, 1, end+1, 1, math.MaxUint64, math.MaxUint64, 0, 1<<63, 1<<63) {
			for _, scheme := range slices.Concat(schemes, noSchemes) {
				refuse(h, scheme, s)
			}
		}
		for _, scheme := range noSchemes {
			for _, s := range pairs(1, 0, 2, 0, 1, 2, 1, 1<<h) {
				refuse(h, scheme, s)
			}
		}
	}
	for _, h := range noHeights {
		for _, s := range pairs(1, 0, 2, 0, 1, 2, 0, 0) {
			for _, scheme := range slices.Concat(schemes, noSchemes) {
				refuse(h, scheme, s)
			}
		}
	}
}

func TestPairsByHand(t *testing.T) { // P12.3
	for h, want := range map[int]int{
		1:  1, // the step is 1: Root but 3
		2:  3, // Root but 3, and but 5; 2 but 5
		3:  5, // from Root 3, from depth 1 one, from depth 2 one
		4:  8,
		5:  11,
		9:  27, // from special depths 9, 6 and 3; from those between 2 and 1, three times
		16: 64,
		31: 171,
		32: 178, // from special depths 32, 26, 20, 14, 8 and 2; from those between 15, five times; from the last one 1
	} {
		if n, e := layer.Pairs(h); n != want || e != api.OK {
			t.Errorf("Pairs(%d) = %d, %d, not %d", h, n, e, want)
		}
	}
}

func TestPairsAreThoseOfTheWords(t *testing.T) { // P12.3: asked of each two nodes
	for h := 1; h <= 7; h++ {
		want := 0
		first := uint64(1) << h
		for i := uint64(1); i < 2*first; i++ {
			for j := uint64(1); j < 2*first; j++ {
				s := api.Subset{I: i, J: j}
				if isSubset(h, s) && useful(h, s) && !isAbove(j, first) && isAbove(j/2, first) && isAbove(i, first) {
					want++
				}
			}
		}
		if n, e := layer.Pairs(h); n != want || e != api.OK {
			t.Errorf("Pairs(%d) = %d, %d, not %d", h, n, e, want)
		}
	}
}

func TestPairsOfEveryHeight(t *testing.T) { // P12.3: asked of each two depths
	for h := 1; h <= api.MaxHeight; h++ {
		want := 0
		for from := range h {
			for to := from + 1; to <= h; to++ {
				if useful(h, api.Subset{I: 1 << from, J: 1<<to + 1}) {
					want++
				}
			}
		}
		if n, e := layer.Pairs(h); n != want || e != api.OK {
			t.Errorf("Pairs(%d) = %d, %d, not %d", h, n, e, want)
		}
	}
	for _, h := range noHeights {
		if n, e := layer.Pairs(h); n != 0 || e != api.ErrArg {
			t.Errorf("Pairs(%d) = %d, %d", h, n, e)
		}
	}
}

func TestEachOtherLeafIsInJustOne(t *testing.T) { // P12.4: asked leaf by leaf
	check := func(h int, l []uint64) {
		for _, scheme := range schemes {
			c, e := layer.Cover(h, scheme, l)
			times := make([]int, 1<<h)
			for _, i := range l {
				times[i]++
			}
			for _, s := range c {
				spans, f := sub.Leaves(h, s)
				if e != api.OK || f != api.OK {
					t.Errorf("%d, %d, %v: %v, %d, %d", h, scheme, l, s, e, f)
				}
				for _, x := range spans {
					for i := x.Low; i <= x.High; i++ {
						times[i]++
					}
				}
			}
			if slices.ContainsFunc(times, func(n int) bool { return n != 1 }) {
				t.Errorf("%d, %d, %v: %v has, or the set, %v", h, scheme, l, c, times)
			}
		}
	}
	eachSet(check)
	check(10, scattered(10, 300))
	check(12, stepped(1024, 2, 3))
	check(13, scattered(13, 60))
}

// joined are spans in order, those that touch as one, if no two of them meet.
func joined(spans []api.Span) (l []api.Span, apart bool) {
	slices.SortFunc(spans, func(a, b api.Span) int { return int(a.Low) - int(b.Low) })
	for _, s := range spans {
		switch k := len(l) - 1; {
		case k >= 0 && s.Low <= l[k].High:
			return nil, false
		case k >= 0 && s.Low == l[k].High+1:
			l[k].High = s.High
		default:
			l = append(l, s)
		}
	}
	return l, true
}

func TestCoversOfGreatHeightsHaveAllOthersEachOnce(t *testing.T) { // P12.4: asked span by span
	eachFar(func(h int, l []uint64) {
		want, _ := leaf.Gaps(h, l)
		for _, scheme := range schemes {
			c, e := layer.Cover(h, scheme, l)
			var spans []api.Span
			for _, s := range c {
				x, f := sub.Leaves(h, s)
				if f != api.OK {
					t.Errorf("%d, %d, %v: %v, %d", h, scheme, l, s, f)
				}
				spans = append(spans, x...)
			}
			if got, apart := joined(spans); !apart || !slices.Equal(got, want) || e != api.OK {
				t.Errorf("%d, %d, %v: %v have %v, %v, %d", h, scheme, l, c, got, apart, e)
			}
		}
	})
}

func refuseCover(t *testing.T, what string, h, scheme int, l []uint64) {
	t.Helper()
	if c, e := layer.Cover(h, scheme, l); len(c) != 0 || e != api.ErrArg {
		t.Errorf("%s: Cover(%d, %d, ..) = %v, %d", what, h, scheme, c, e)
	}
}

func TestCoverRefusesHeightsAndSchemes(t *testing.T) { // P12.1
	for _, l := range [][]uint64{nil, {}, {0}, {0, 1}, {1, 0}, {lastOf32}} {
		for _, h := range noHeights {
			for _, scheme := range slices.Concat(schemes, noSchemes) {
				refuseCover(t, "no height", h, scheme, l)
			}
		}
		for h := 1; h <= api.MaxHeight; h++ {
			for _, scheme := range noSchemes {
				refuseCover(t, "no scheme", h, scheme, l)
			}
		}
	}
}

func TestCoverRefusesWhatIsNoSet(t *testing.T) { // P12.1
	sets := map[string][]uint64{
		"falls":                 {1, 0},
		"one twice":             {1, 1},
		"the first leaf twice":  {0, 0, 1},
		"the last one falls":    {0, 1, 0},
		"beyond the last leaf":  {1 << 32},
		"the greatest number":   {0, math.MaxUint64},
		"around to 0":           {math.MaxUint64, 0},
		"1025 leaves":           stepped(1025, 0, 1),
		"1025 leaves, far ones": stepped(1025, lastOf32-2048, 2),
	}
	for h := 1; h <= api.MaxHeight; h++ {
		for _, scheme := range schemes {
			for what, l := range sets {
				refuseCover(t, what, h, scheme, l)
			}
			for _, i := range noLeaves(h) {
				refuseCover(t, "no leaf of the height", h, scheme, []uint64{i})
				refuseCover(t, "no leaf of the height", h, scheme, []uint64{0, i})
			}
		}
	}
}

func TestSetsHandedInAreNotChangedOrShared(t *testing.T) { // R2
	want := map[int][]api.Subset{
		api.WholeS: pairs(5, 0, 7, 0, 9, 0, 13, 0, 17, 0, 25, 0),
		api.DiffS:  pairs(2, 16, 3, 24),
		api.LayerS: pairs(2, 4, 3, 6, 4, 16, 6, 24),
	}
	for _, scheme := range schemes {
		// Room behind the set's end, which a careless append would write into.
		room := []uint64{0, 8, 99, 99}
		c, _ := layer.Cover(4, scheme, room[:2])
		none, _ := layer.Cover(4, scheme, room[:0])
		if !slices.Equal(room, []uint64{0, 8, 99, 99}) {
			t.Fatalf("%d changed: %v", scheme, room)
		}
		for k := range room {
			room[k] = 88
		}
		if !slices.Equal(c, want[scheme]) || !slices.Equal(none, pairs(1, 0)) {
			t.Errorf("%d: got %v, %v", scheme, c, none)
		}
		for _, told := range [][]api.Subset{c, none} {
			clear(told[:cap(told)])
		}
		if !slices.Equal(room, []uint64{88, 88, 88, 88}) {
			t.Errorf("%d shared: %v", scheme, room)
		}
		again, _ := layer.Cover(4, scheme, []uint64{0, 8})
		empty, _ := layer.Cover(4, scheme, nil)
		if !slices.Equal(again, want[scheme]) || !slices.Equal(empty, pairs(1, 0)) {
			t.Errorf("%d kept: %v, %v", scheme, again, empty)
		}
	}
}

func TestListsHandedInAreNotChangedOrShared(t *testing.T) { // R2
	for n := range 4 {
		// In order, or not; and room behind the list's end, which a careless append would write into.
		for _, first := range [][]api.Subset{pairs(3, 0, 2, 5, 2, 4), pairs(2, 4, 2, 5, 3, 0)} {
			room := append(slices.Clone(first), pairs(9, 9, 9, 9)...)
			kept := slices.Clone(room)
			told := layer.Order(room[:n])
			want := ordered(first[:n])
			if !slices.Equal(room, kept) {
				t.Fatalf("changed: %v", room)
			}
			clear(room)
			if !slices.Equal(told, want) {
				t.Errorf("got %v", told)
			}
			for k := range told[:cap(told)] {
				told[:cap(told)][k] = api.Subset{I: 7, J: 7}
			}
			if slices.ContainsFunc(room, func(s api.Subset) bool { return s != api.Subset{} }) {
				t.Errorf("shared: %v", room)
			}
			if again := layer.Order(first[:n]); !slices.Equal(again, want) {
				t.Errorf("kept: %v", again)
			}
		}
	}
}
