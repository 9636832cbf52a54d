package diff_test

import (
	"math"
	"slices"
	"testing"

	"medlar/api"
	"medlar/diff"
	"medlar/leaf"
	"medlar/sub"
)

const lastOf32 = 1<<32 - 1

// topSmall is up to which height each set of leaves is tried.
const topSmall = 4

var noHeights = []int{math.MinInt, -64, -1, 0, api.MaxHeight + 1, 63, 64, math.MaxInt}

func noLeaves(h int) []uint64 {
	return []uint64{1 << h, 1<<h + 1, 1 << (h + 1), 1 << 33, 1 << 63, math.MaxUint64}
}

// members is the set that the bits of a number tell: leaf i is in it, if bit i is 1.
func members(h int, bits uint64) []uint64 {
	var l []uint64
	for i := range uint64(1) << h {
		if bits>>i&1 == 1 {
			l = append(l, i)
		}
	}
	return l
}

// stepped is n leaves, from one on, each a step from the one ahead of it.
func stepped(n int, from, step uint64) []uint64 {
	l := make([]uint64, n)
	for k := range l {
		l[k] = from + uint64(k)*step
	}
	return l
}

// scattered is about n leaves of a height, all over it.
func scattered(h, n int) []uint64 {
	var l []uint64
	for k := range uint64(n) {
		l = append(l, (k*0x9e3779b97f4a7c15+0x5851f42d)>>(64-h))
	}
	slices.Sort(l)
	return slices.Compact(l)
}

// spread is 2^n leaves, whose tree forks at depths 1, 3, 5 and so on: of a height above 2n no fork is Root, or a fork's child, or right above a leaf.
func spread(h, n int) []uint64 {
	l := []uint64{0}
	for k := range n {
		for _, i := range l {
			l = append(l, i+1<<(h-2-2*k))
		}
	}
	slices.Sort(l)
	return l
}

// pairs are the subsets that numbers tell, two by two: the one's leaves, but the other one's.
func pairs(nodes ...uint64) []api.Subset {
	var l []api.Subset
	for p := range slices.Chunk(nodes, 2) {
		l = append(l, api.Subset{I: p[0], J: p[1]})
	}
	return l
}

// upward is n, the node above it, and so on, to Root.
func upward(n uint64) []uint64 {
	var l []uint64
	for ; n >= api.Root; n /= 2 {
		l = append(l, n)
	}
	return l
}

// tree tells, of each node of a set's tree, which leaves of the set are below it.
func tree(h int, l []uint64) map[uint64][]uint64 {
	below := map[uint64][]uint64{}
	for _, i := range l {
		for _, n := range upward(1<<h + i) {
			below[n] = append(below[n], i)
		}
	}
	return below
}

// deepest is the first node, on the way from a leaf below a top upward, that is above all that are below the top.
func deepest(h int, below map[uint64][]uint64, top uint64) uint64 {
	for _, n := range upward(1<<h + below[top][0]) {
		if slices.Equal(below[n], below[top]) {
			return n
		}
	}
	return 0
}

// plainCover is the cover by the chapter's words: of Root, and of both children of each node both of whose children are above a leaf of the set.
func plainCover(h int, l []uint64) []api.Subset {
	if len(l) == 0 {
		return pairs(1, 0)
	}
	below := tree(h, l)
	tops := []uint64{api.Root}
	for n := range below {
		if len(below[2*n]) > 0 && len(below[2*n+1]) > 0 {
			tops = append(tops, 2*n, 2*n+1)
		}
	}
	var cover []api.Subset
	for _, top := range tops {
		if d := deepest(h, below, top); d != top {
			cover = append(cover, api.Subset{I: top, J: d})
		}
	}
	slices.SortFunc(cover, func(a, b api.Subset) int {
		if sub.Less(a, b) {
			return -1
		}
		return 1
	})
	return cover
}

// eachSet hands in each set of leaves of heights 1 to topSmall.
func eachSet(do func(h int, l []uint64)) {
	for h := 1; h <= topSmall; h++ {
		for bits := range uint64(1) << (1 << h) {
			do(h, members(h, bits))
		}
	}
}

// eachFar hands in sets of every height: none, one leaf, few side by side, at the ends, and far down, and as many as may be.
func eachFar(do func(h int, l []uint64)) {
	for h := 1; h <= api.MaxHeight; h++ {
		last := uint64(1)<<h - 1
		for _, l := range [][]uint64{nil, {0}, {last}, {last / 3}, {0, 1}, {0, last}, {last - 1, last}, {last / 2, last/2 + 1}} {
			do(h, l)
		}
		if h >= 4 {
			do(h, []uint64{last/3 - 1, last / 3, last/3 + 3})
			do(h, []uint64{0, 1, 3, last / 2, last/2 + 1, last - 3, last})
		}
		do(h, scattered(h, 40))
		do(h, spread(h, min(h/2, 10)))
		if h >= 10 {
			for _, l := range [][]uint64{stepped(1024, 0, 1), stepped(1024, last-1023, 1), stepped(1024, 0, 1<<(h-10)), stepped(512, 1, 2), scattered(h, 1000)} {
				do(h, l)
			}
		}
	}
}

// checkCover holds a cover against the words, and against Bound.
func checkCover(t *testing.T, h int, l []uint64) {
	t.Helper()
	got, e := diff.Cover(h, l)
	if want := plainCover(h, l); !slices.Equal(got, want) || e != api.OK {
		t.Errorf("Cover(%d, %v) = %v, %d, not %v", h, l, got, e, want)
	}
	if most, e := diff.Bound(h, len(l)); uint64(len(got)) > most || e != api.OK {
		t.Errorf("%d, %d leaves: %d subsets, Bound tells %d, %d", h, len(l), len(got), most, e)
	}
}

func TestEachSetOfSmallHeights(t *testing.T) { // P11.1, P11.3
	eachSet(func(h int, l []uint64) { checkCover(t, h, l) })
}

func TestSetsOfGreatHeights(t *testing.T) { // P11.1, P11.3
	eachFar(func(h int, l []uint64) {
		if e := leaf.Check(h, l); e != api.OK {
			t.Fatalf("%d, %d leaves: no set", h, len(l))
		}
		checkCover(t, h, l)
	})
}

func TestCoverByHand(t *testing.T) { // P11.1: what is told, and in which order
	for _, x := range []struct {
		what string
		h    int
		l    []uint64
		want []api.Subset
	}{
		{"the chapter's example", 3, []uint64{0, 1}, []api.Subset{{I: 1, J: 4}}},
		{"an empty set", 3, nil, []api.Subset{{I: 1, J: 0}}},
		{"an empty set, least height", 1, []uint64{}, pairs(1, 0)},
		{"an empty set, greatest height", 32, nil, pairs(1, 0)},
		{"the first leaf", 3, []uint64{0}, pairs(1, 8)},
		{"the last leaf", 3, []uint64{7}, pairs(1, 15)},
		{"one within", 3, []uint64{5}, pairs(1, 13)},
		{"the first one, least height", 1, []uint64{0}, pairs(1, 2)},
		{"the last one, least height", 1, []uint64{1}, pairs(1, 3)},
		{"all leaves, least height", 1, []uint64{0, 1}, nil},
		{"all leaves", 3, stepped(8, 0, 1), nil},
		{"all but one: each fork's child but one is no such top", 3, []uint64{0, 1, 2, 4, 5, 6, 7}, pairs(5, 10)},
		{"side by side, below one", 3, []uint64{4, 5}, pairs(1, 6)},
		{"side by side, below two: Root is a fork", 3, []uint64{3, 4}, pairs(2, 11, 3, 12)},
		{"at the two ends", 3, []uint64{0, 7}, pairs(2, 8, 3, 15)},
		{"half of them", 3, []uint64{0, 1, 2, 3}, pairs(1, 2)},
		{"every second one", 3, []uint64{0, 2, 4, 6}, pairs(4, 8, 5, 10, 6, 12, 7, 14)},
		{"one child a leaf's node, one not", 3, []uint64{0, 2, 3}, pairs(1, 2, 4, 8)},
		{"one child a fork, one not", 3, []uint64{0, 1, 4}, pairs(2, 4, 3, 12)},
		{"below one node far down", 4, []uint64{8, 10, 11}, pairs(1, 6, 12, 24)},
		{"two side by side, far down", 4, []uint64{10, 11}, pairs(1, 13)},
		{"those on the right ahead of deeper ones on the left", 4, []uint64{0, 2, 12, 15}, pairs(2, 4, 3, 7, 8, 16, 9, 18, 14, 28, 15, 31)},
		{"a deep fork on the left, one not so deep on the right", 5, []uint64{0, 2, 16, 24}, pairs(2, 8, 6, 48, 7, 56, 16, 32, 17, 34)},
	} {
		if c, e := diff.Cover(x.h, x.l); !slices.Equal(c, x.want) || e != api.OK {
			t.Errorf("%s: got %v, %d", x.what, c, e)
		}
	}
}

func TestCoverOfGreatestHeightByHand(t *testing.T) { // P11.1
	var far []uint64
	for k := range uint64(1024) {
		far = append(far, 1<<10+k, 1<<32+k<<22)
	}
	for _, x := range []struct {
		what string
		l    []uint64
		want []api.Subset
	}{
		{"the first leaf", []uint64{0}, pairs(1, 1<<32)},
		{"the last leaf", []uint64{lastOf32}, pairs(1, 1<<33-1)},
		{"one within", []uint64{0x5a5ac3c3}, pairs(1, 0x15a5ac3c3)},
		{"the first two", []uint64{0, 1}, pairs(1, 1<<31)},
		{"the last two", []uint64{lastOf32 - 1, lastOf32}, pairs(1, 1<<32-1)},
		{"the two in the middle", []uint64{1<<31 - 1, 1 << 31}, pairs(2, 1<<32+1<<31-1, 3, 1<<32+1<<31)},
		{"both ends", []uint64{0, lastOf32}, pairs(2, 1<<32, 3, 1<<33-1)},
		{"two below a node far down", []uint64{0x5a5ac3c0, 0x5a5ac3c3}, pairs(1, 0x15a5ac3c0/4, 0x15a5ac3c0/2, 0x15a5ac3c0, 0x15a5ac3c2/2, 0x15a5ac3c3)},
		{"the first 1024", stepped(1024, 0, 1), pairs(1, 1<<22)},
		{"the last 1024", stepped(1024, lastOf32-1023, 1), pairs(1, 1<<23-1)},
		{"1024 far apart", stepped(1024, 0, 1<<22), pairs(far...)},
	} {
		if c, e := diff.Cover(32, x.l); !slices.Equal(c, x.want) || e != api.OK {
			t.Errorf("%s: got %d subsets, %d", x.what, len(c), e)
		}
	}
}

func TestAsManyLeavesAsMayBe(t *testing.T) { // P11.1
	var second []uint64
	for k := range uint64(1024) {
		second = append(second, 1<<10+k, 1<<11+2*k)
	}
	for _, x := range []struct {
		what string
		h    int
		l    []uint64
		want []api.Subset
	}{
		{"all leaves", 10, stepped(1024, 0, 1), nil},
		{"every second one", 11, stepped(1024, 0, 2), pairs(second...)},
		{"the left half", 11, stepped(1024, 0, 1), pairs(1, 2)},
		{"the right half", 11, stepped(1024, 1024, 1), pairs(1, 3)},
	} {
		if c, e := diff.Cover(x.h, x.l); !slices.Equal(c, x.want) || e != api.OK {
			t.Errorf("%s: got %v, %d", x.what, c, e)
		}
	}
}

func TestBoundByHand(t *testing.T) { // P11.2
	for _, x := range []struct {
		what    string
		h, many int
		want    uint64
	}{
		{"none", 3, 0, 1},
		{"none, least height", 1, 0, 1},
		{"none, greatest height", 32, 0, 1},
		{"one", 3, 1, 1},
		{"one, least height", 1, 1, 1},
		{"one, greatest height", 32, 1, 1},
		{"two", 3, 2, 3},
		{"three", 3, 3, 5},
		{"all but one", 3, 7, 13},
		{"as many as there are", 3, 8, 15},
		{"as many as there are, least height", 1, 2, 3},
		{"two, greatest height", 32, 2, 3},
		{"MaxLeaves, less 1", 32, 1023, 2045},
		{"MaxLeaves", 32, 1024, 2047},
		{"MaxLeaves, all there are", 10, 1024, 2047},
	} {
		if n, e := diff.Bound(x.h, x.many); n != x.want || e != api.OK {
			t.Errorf("%s: Bound(%d, %d) = %d, %d", x.what, x.h, x.many, n, e)
		}
	}
}

func TestBoundOfEveryHeight(t *testing.T) { // P11.2
	for h := 1; h <= api.MaxHeight; h++ {
		for many := 0; many <= 1100; many++ {
			want, wantE := uint64(many+many-1), api.OK
			if many == 0 {
				want = 1
			}
			if many > 1024 || many > 1<<h {
				want, wantE = 0, api.ErrArg
			}
			if n, e := diff.Bound(h, many); n != want || e != wantE {
				t.Errorf("Bound(%d, %d) = %d, %d, not %d, %d", h, many, n, e, want, wantE)
			}
		}
	}
}

func TestBoundRefuses(t *testing.T) { // P11.2
	for h := 1; h <= api.MaxHeight; h++ {
		for _, many := range []int{math.MinInt, math.MinInt + 1, -1025, -1, min(1<<h, 1024) + 1, 1025, 2048, 1 << 32, 1<<32 + 1, math.MaxInt} {
			if n, e := diff.Bound(h, many); n != 0 || e != api.ErrArg {
				t.Errorf("Bound(%d, %d) = %d, %d", h, many, n, e)
			}
		}
	}
	for _, h := range noHeights {
		for _, many := range []int{math.MinInt, -1, 0, 1, 2, 1024, 1025, math.MaxInt} {
			if n, e := diff.Bound(h, many); n != 0 || e != api.ErrArg {
				t.Errorf("Bound(%d, %d) = %d, %d", h, many, n, e)
			}
		}
	}
}

func TestBoundIsReached(t *testing.T) { // P11.3: each top of which there may be a subset has one
	for h := 1; h <= api.MaxHeight; h++ {
		for n := 0; n <= 10 && 2*n < h; n++ {
			c, e := diff.Cover(h, spread(h, n))
			most, f := diff.Bound(h, 1<<n)
			if uint64(len(c)) != most || e != api.OK || f != api.OK {
				t.Errorf("%d, 2^%d leaves: %d subsets, Bound %d; %d, %d", h, n, len(c), most, e, f)
			}
		}
	}
}

func TestEachOtherLeafIsInJustOne(t *testing.T) { // P11.3: asked leaf by leaf
	check := func(h int, l []uint64) {
		c, e := diff.Cover(h, l)
		if e != api.OK {
			t.Errorf("%d, %v: %d", h, l, e)
		}
		times := make([]int, 1<<h)
		for _, s := range c {
			spans, e := sub.Leaves(h, s)
			if e != api.OK {
				t.Errorf("%d, %v: %v, %d", h, l, s, e)
			}
			for _, x := range spans {
				for i := x.Low; i <= x.High; i++ {
					times[i]++
				}
			}
		}
		for _, i := range l {
			times[i]++
			if times[i] != 1 {
				t.Errorf("%d, %v: leaf %d is in the set, and in a subset", h, l, i)
			}
		}
		if slices.ContainsFunc(times, func(n int) bool { return n != 1 }) {
			t.Errorf("%d, %v: %v has, or the set, %v", h, l, c, times)
		}
	}
	eachSet(check)
	check(10, scattered(10, 300))
	check(12, stepped(1024, 2, 3))
	check(13, spread(13, 6))
}

// joined are spans in order, those that touch as one, if no two of them meet.
func joined(spans []api.Span) (l []api.Span, apart bool) {
	slices.SortFunc(spans, func(a, b api.Span) int { return int(a.Low) - int(b.Low) })
	for _, s := range spans {
		switch k := len(l) - 1; {
		case k >= 0 && s.Low <= l[k].High:
			return nil, false
		case k >= 0 && s.Low == l[k].High+1:
			l[k].High = s.High
		default:
			l = append(l, s)
		}
	}
	return l, true
}

func TestCoversOfGreatHeightsHaveAllOthersEachOnce(t *testing.T) { // P11.3: asked span by span
	eachFar(func(h int, l []uint64) {
		c, e := diff.Cover(h, l)
		var spans []api.Span
		for _, s := range c {
			x, f := sub.Leaves(h, s)
			if f != api.OK {
				t.Errorf("%d, %v: %v, %d", h, l, s, f)
			}
			spans = append(spans, x...)
		}
		want, _ := leaf.Gaps(h, l)
		if got, apart := joined(spans); !apart || !slices.Equal(got, want) || e != api.OK {
			t.Errorf("%d, %v: %v have %v, %v, %d", h, l, c, got, apart, e)
		}
	})
}

func refuseCover(t *testing.T, what string, h int, l []uint64) {
	t.Helper()
	if c, e := diff.Cover(h, l); len(c) != 0 || e != api.ErrArg {
		t.Errorf("%s: Cover(%d, ..) = %v, %d", what, h, c, e)
	}
}

func TestCoverRefusesHeights(t *testing.T) { // P11.1
	for _, h := range noHeights {
		for _, l := range [][]uint64{nil, {}, {0}, {0, 1}, {1, 0}, {lastOf32}} {
			refuseCover(t, "no height", h, l)
		}
	}
}

func TestCoverRefusesWhatIsNoSet(t *testing.T) { // P11.1
	for what, l := range map[string][]uint64{
		"falls":                 {1, 0},
		"one twice":             {1, 1},
		"the first leaf twice":  {0, 0, 1},
		"the last one falls":    {0, 1, 0},
		"beyond the last leaf":  {1 << 32},
		"the greatest number":   {0, math.MaxUint64},
		"around to 0":           {math.MaxUint64, 0},
		"1025 leaves":           stepped(1025, 0, 1),
		"1025 leaves, far ones": stepped(1025, lastOf32-2048, 2),
	} {
		for h := 1; h <= api.MaxHeight; h++ {
			refuseCover(t, what, h, l)
		}
	}
	for h := 1; h <= api.MaxHeight; h++ {
		for _, i := range noLeaves(h) {
			refuseCover(t, "no leaf of the height", h, []uint64{i})
			refuseCover(t, "no leaf of the height", h, []uint64{0, i})
		}
	}
}

func TestNothingHandedInIsChangedOrShared(t *testing.T) { // R2
	// Room behind the set's end, which a careless append would write into.
	room := []uint64{2, 3, 6, 99, 99}
	l := room[:3]
	c, _ := diff.Cover(3, l)
	none, _ := diff.Cover(3, l[:0])
	if !slices.Equal(room, []uint64{2, 3, 6, 99, 99}) {
		t.Fatalf("changed: %v", room)
	}
	for k := range room {
		room[k] = 88
	}
	if !slices.Equal(c, pairs(2, 5, 3, 14)) || !slices.Equal(none, pairs(1, 0)) {
		t.Errorf("got %v, %v", c, none)
	}
	for _, told := range [][]api.Subset{c, none} {
		clear(told[:cap(told)])
	}
	if !slices.Equal(room, []uint64{88, 88, 88, 88, 88}) {
		t.Errorf("shared: %v", room)
	}
	again, _ := diff.Cover(3, []uint64{2, 3, 6})
	empty, _ := diff.Cover(3, nil)
	if !slices.Equal(again, pairs(2, 5, 3, 14)) || !slices.Equal(empty, pairs(1, 0)) {
		t.Errorf("kept: %v, %v", again, empty)
	}
}
