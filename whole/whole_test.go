package whole_test

import (
	"math"
	"slices"
	"testing"

	"medlar/api"
	"medlar/leaf"
	"medlar/sub"
	"medlar/whole"
)

const lastOf32 = 1<<32 - 1

// topSmall is up to which height each set of leaves is tried.
const topSmall = 4

var noHeights = []int{math.MinInt, -64, -1, 0, api.MaxHeight + 1, 63, 64, math.MaxInt}

func noLeaves(h int) []uint64 {
	return []uint64{1 << h, 1<<h + 1, 1 << (h + 1), 1 << 33, 1 << 63, math.MaxUint64}
}

// members is the set that the bits of a number tell: leaf i is in it, if bit i is 1.
func members(h int, bits uint64) []uint64 {
	var l []uint64
	for i := range uint64(1) << h {
		if bits>>i&1 == 1 {
			l = append(l, i)
		}
	}
	return l
}

// stepped is n leaves, or nodes, from one on, each a step from the one ahead of it.
func stepped(n int, from, step uint64) []uint64 {
	l := make([]uint64, n)
	for k := range l {
		l[k] = from + uint64(k)*step
	}
	return l
}

// scattered is about n leaves of a height, all over it.
func scattered(h, n int) []uint64 {
	var l []uint64
	for k := range uint64(n) {
		l = append(l, (k*0x9e3779b97f4a7c15+0x5851f42d)>>(64-h))
	}
	slices.Sort(l)
	return slices.Compact(l)
}

// below are the subsets of nodes: all that is below each of them, but nothing.
func below(nodes ...uint64) []api.Subset {
	var l []api.Subset
	for _, n := range nodes {
		l = append(l, api.Subset{I: n, J: 0})
	}
	return l
}

// upward is n, the node above it, and so on, to Root.
func upward(n uint64) []uint64 {
	var l []uint64
	for ; n >= api.Root; n /= 2 {
		l = append(l, n)
	}
	return l
}

// plainCover is the cover by the chapters' words: the nodes that are above no leaf of the set, but whose node above is, rising.
func plainCover(h int, l []uint64) []api.Subset {
	if len(l) == 0 {
		return below(api.Root)
	}
	in := map[uint64]bool{}
	for _, i := range l {
		for _, n := range upward(1<<h + i) {
			in[n] = true
		}
	}
	var hang []uint64
	for n := range in {
		for _, c := range []uint64{n + n, n + n + 1} {
			if n < 1<<h && !in[c] {
				hang = append(hang, c)
			}
		}
	}
	slices.Sort(hang)
	return below(hang...)
}

// plainBound is the bound by the chapter's words: the greatest number is counted up to, power by power.
func plainBound(h, many int) uint64 {
	if many == 0 {
		return 1
	}
	greatest := 0
	for power := 2; power <= many; power += power {
		greatest++
	}
	sum := 0
	for range many {
		sum += h - greatest
	}
	return uint64(sum)
}

// eachSet hands in each set of leaves of heights 1 to topSmall.
func eachSet(do func(h int, l []uint64)) {
	for h := 1; h <= topSmall; h++ {
		for bits := range uint64(1) << (1 << h) {
			do(h, members(h, bits))
		}
	}
}

// eachFar hands in sets of every height: none, one leaf, few side by side, at the ends, and far down, and as many as may be.
func eachFar(do func(h int, l []uint64)) {
	for h := 1; h <= api.MaxHeight; h++ {
		last := uint64(1)<<h - 1
		for _, l := range [][]uint64{nil, {0}, {last}, {last / 3}, {0, 1}, {0, last}, {last - 1, last}, {last / 2, last/2 + 1}} {
			do(h, l)
		}
		if h >= 4 {
			do(h, []uint64{last/3 - 1, last / 3, last/3 + 3})
			do(h, []uint64{0, 1, 3, last / 2, last/2 + 1, last - 3, last})
		}
		do(h, scattered(h, 40))
		if h >= 10 {
			for _, l := range [][]uint64{stepped(1024, 0, 1), stepped(1024, last-1023, 1), stepped(1024, 0, 1<<(h-10)), stepped(512, 1, 2), scattered(h, 1000)} {
				do(h, l)
			}
		}
	}
}

// checkCover holds a cover against the words, and against Bound.
func checkCover(t *testing.T, h int, l []uint64) {
	t.Helper()
	got, e := whole.Cover(h, l)
	if want := plainCover(h, l); !slices.Equal(got, want) || e != api.OK {
		t.Errorf("Cover(%d, %v) = %v, %d, not %v", h, l, got, e, want)
	}
	if most, e := whole.Bound(h, len(l)); uint64(len(got)) > most || e != api.OK {
		t.Errorf("%d, %d leaves: %d subsets, Bound tells %d, %d", h, len(l), len(got), most, e)
	}
}

func TestEachSetOfSmallHeights(t *testing.T) { // P10.1, P10.3
	eachSet(func(h int, l []uint64) { checkCover(t, h, l) })
}

func TestSetsOfGreatHeights(t *testing.T) { // P10.1, P10.3
	eachFar(func(h int, l []uint64) {
		if e := leaf.Check(h, l); e != api.OK {
			t.Fatalf("%d, %d leaves: no set", h, len(l))
		}
		checkCover(t, h, l)
	})
}

func TestCoverByHand(t *testing.T) { // P10.1: what is told, and in which order
	for _, x := range []struct {
		what string
		h    int
		l    []uint64
		want []api.Subset
	}{
		{"the chapter's example", 2, []uint64{1}, []api.Subset{{I: 3, J: 0}, {I: 4, J: 0}}},
		{"an empty set", 3, nil, below(1)},
		{"an empty set, least height", 1, []uint64{}, below(1)},
		{"an empty set, greatest height", 32, nil, below(1)},
		{"the first leaf", 3, []uint64{0}, below(3, 5, 9)},
		{"the last leaf", 3, []uint64{7}, below(2, 6, 14)},
		{"one within", 3, []uint64{5}, below(2, 7, 12)},
		{"the first one, least height", 1, []uint64{0}, below(3)},
		{"the last one, least height", 1, []uint64{1}, below(2)},
		{"all leaves, least height", 1, []uint64{0, 1}, nil},
		{"all leaves", 3, stepped(8, 0, 1), nil},
		{"all but one", 3, []uint64{0, 1, 2, 4, 5, 6, 7}, below(11)},
		{"side by side, below one", 3, []uint64{4, 5}, below(2, 7)},
		{"side by side, below two", 3, []uint64{3, 4}, below(4, 7, 10, 13)},
		{"at the two ends", 3, []uint64{0, 7}, below(5, 6, 9, 14)},
		{"half of them", 3, []uint64{0, 1, 2, 3}, below(3)},
		{"every second one", 3, []uint64{0, 2, 4, 6}, below(9, 11, 13, 15)},
		{"below one node far down", 4, []uint64{8, 10, 11}, below(2, 7, 25)},
		{"those on the right ahead of deeper ones on the left", 4, []uint64{0, 2, 12, 15}, below(5, 6, 17, 19, 29, 30)},
	} {
		if c, e := whole.Cover(x.h, x.l); !slices.Equal(c, x.want) || e != api.OK {
			t.Errorf("%s: got %v, %d", x.what, c, e)
		}
	}
}

func TestCoverOfGreatestHeightByHand(t *testing.T) { // P10.1
	var left, right, ends, far []uint64
	for d := 1; d <= 32; d++ {
		left = append(left, 1<<d+1)
		right = append(right, 2<<d-2)
		if d > 1 {
			ends = append(ends, 1<<d+1, 2<<d-2)
		}
		if d > 10 {
			far = append(far, stepped(1024, 1<<d+1, 1<<(d-10))...)
		}
	}
	slices.Sort(ends)
	for _, x := range []struct {
		what string
		l    []uint64
		want []uint64
	}{
		{"the first leaf", []uint64{0}, left},
		{"the last leaf", []uint64{lastOf32}, right},
		{"the first two", []uint64{0, 1}, left[:31]},
		{"the last two", []uint64{lastOf32 - 1, lastOf32}, right[:31]},
		{"both ends", []uint64{0, lastOf32}, ends},
		{"the first 1024", stepped(1024, 0, 1), left[:22]},
		{"the last 1024", stepped(1024, lastOf32-1023, 1), right[:22]},
		{"1024 far apart", stepped(1024, 0, 1<<22), far},
	} {
		if c, e := whole.Cover(32, x.l); !slices.Equal(c, below(x.want...)) || e != api.OK {
			t.Errorf("%s: got %d subsets, %d", x.what, len(c), e)
		}
	}
}

func TestAsManyLeavesAsMayBe(t *testing.T) { // P10.1
	for _, x := range []struct {
		what string
		h    int
		l    []uint64
		want []uint64
	}{
		{"all leaves", 10, stepped(1024, 0, 1), nil},
		{"every second one", 11, stepped(1024, 0, 2), stepped(1024, 1<<11+1, 2)},
		{"the left half", 11, stepped(1024, 0, 1), []uint64{3}},
		{"the right half", 11, stepped(1024, 1024, 1), []uint64{2}},
	} {
		if c, e := whole.Cover(x.h, x.l); !slices.Equal(c, below(x.want...)) || e != api.OK {
			t.Errorf("%s: got %v, %d", x.what, c, e)
		}
	}
}

func TestBoundByHand(t *testing.T) { // P10.2
	for _, x := range []struct {
		what    string
		h, many int
		want    uint64
	}{
		{"none", 3, 0, 1},
		{"none, least height", 1, 0, 1},
		{"none, greatest height", 32, 0, 1},
		{"one", 3, 1, 3},
		{"one, least height", 1, 1, 1},
		{"one, greatest height", 32, 1, 32},
		{"two", 3, 2, 4},
		{"a power of 2, less 1", 3, 3, 6},
		{"a power of 2", 3, 4, 4},
		{"a power of 2, and 1", 3, 5, 5},
		{"all but one", 3, 7, 7},
		{"as many as there are", 3, 8, 0},
		{"as many as there are, least height", 1, 2, 0},
		{"15, greatest height", 32, 15, 435},
		{"16, greatest height", 32, 16, 448},
		{"17, greatest height", 32, 17, 476},
		{"511, greatest height", 32, 511, 12264},
		{"512, greatest height", 32, 512, 11776},
		{"513, greatest height", 32, 513, 11799},
		{"MaxLeaves, less 1", 32, 1023, 23529},
		{"MaxLeaves", 32, 1024, 22528},
		{"MaxLeaves, all there are", 10, 1024, 0},
		{"MaxLeaves, less 1, of all there are", 10, 1023, 1023},
		{"MaxLeaves, half of all there are", 11, 1024, 1024},
	} {
		if n, e := whole.Bound(x.h, x.many); n != x.want || e != api.OK {
			t.Errorf("%s: Bound(%d, %d) = %d, %d", x.what, x.h, x.many, n, e)
		}
	}
}

func TestBoundOfEveryHeight(t *testing.T) { // P10.2
	for h := 1; h <= api.MaxHeight; h++ {
		for many := 0; many <= 1100; many++ {
			want, wantE := plainBound(h, many), api.OK
			if many > 1024 || many > 1<<h {
				want, wantE = 0, api.ErrArg
			}
			if n, e := whole.Bound(h, many); n != want || e != wantE {
				t.Errorf("Bound(%d, %d) = %d, %d, not %d, %d", h, many, n, e, want, wantE)
			}
		}
	}
}

func TestBoundRefuses(t *testing.T) { // P10.2
	for h := 1; h <= api.MaxHeight; h++ {
		for _, many := range []int{math.MinInt, math.MinInt + 1, -1025, -1, min(1<<h, 1024) + 1, 1025, 2048, 1 << 32, 1<<32 + 1, math.MaxInt} {
			if n, e := whole.Bound(h, many); n != 0 || e != api.ErrArg {
				t.Errorf("Bound(%d, %d) = %d, %d", h, many, n, e)
			}
		}
	}
	for _, h := range noHeights {
		for _, many := range []int{math.MinInt, -1, 0, 1, 2, 1024, 1025, math.MaxInt} {
			if n, e := whole.Bound(h, many); n != 0 || e != api.ErrArg {
				t.Errorf("Bound(%d, %d) = %d, %d", h, many, n, e)
			}
		}
	}
}

func TestBoundIsReached(t *testing.T) { // P10.3: as many leaves as a power of 2 tells, as far apart as may be
	for h := 1; h <= api.MaxHeight; h++ {
		for k := 0; k <= min(h, 10); k++ {
			c, e := whole.Cover(h, stepped(1<<k, 0, 1<<(h-k)))
			most, f := whole.Bound(h, 1<<k)
			if uint64(len(c)) != most || e != api.OK || f != api.OK {
				t.Errorf("%d, 2^%d leaves: %d subsets, Bound %d; %d, %d", h, k, len(c), most, e, f)
			}
		}
	}
}

func TestEachOtherLeafIsInJustOne(t *testing.T) { // P10.3: asked leaf by leaf
	check := func(h int, l []uint64) {
		c, e := whole.Cover(h, l)
		if e != api.OK {
			t.Errorf("%d, %v: %d", h, l, e)
		}
		times := make([]int, 1<<h)
		for _, s := range c {
			spans, e := sub.Leaves(h, s)
			if e != api.OK || s.J != 0 {
				t.Errorf("%d, %v: %v, %d", h, l, s, e)
			}
			for _, x := range spans {
				for i := x.Low; i <= x.High; i++ {
					times[i]++
				}
			}
		}
		for _, i := range l {
			times[i]++
			if times[i] != 1 {
				t.Errorf("%d, %v: leaf %d is in the set, and in a subset", h, l, i)
			}
		}
		if slices.ContainsFunc(times, func(n int) bool { return n != 1 }) {
			t.Errorf("%d, %v: %v has, or the set, %v", h, l, c, times)
		}
	}
	eachSet(check)
	check(10, scattered(10, 300))
	check(12, stepped(1024, 2, 3))
}

// joined are spans in order, those that touch as one, if no two of them meet.
func joined(spans []api.Span) (l []api.Span, apart bool) {
	slices.SortFunc(spans, func(a, b api.Span) int { return int(a.Low) - int(b.Low) })
	for _, s := range spans {
		switch k := len(l) - 1; {
		case k >= 0 && s.Low <= l[k].High:
			return nil, false
		case k >= 0 && s.Low == l[k].High+1:
			l[k].High = s.High
		default:
			l = append(l, s)
		}
	}
	return l, true
}

func TestCoversOfGreatHeightsHaveAllOthersEachOnce(t *testing.T) { // P10.3: asked span by span
	eachFar(func(h int, l []uint64) {
		c, e := whole.Cover(h, l)
		var spans []api.Span
		for _, s := range c {
			x, _ := sub.Leaves(h, s)
			spans = append(spans, x...)
		}
		want, _ := leaf.Gaps(h, l)
		if got, apart := joined(spans); !apart || !slices.Equal(got, want) || e != api.OK {
			t.Errorf("%d, %v: %v have %v, %v, %d", h, l, c, got, apart, e)
		}
	})
}

func refuseCover(t *testing.T, what string, h int, l []uint64) {
	t.Helper()
	if c, e := whole.Cover(h, l); len(c) != 0 || e != api.ErrArg {
		t.Errorf("%s: Cover(%d, ..) = %v, %d", what, h, c, e)
	}
}

func TestCoverRefusesHeights(t *testing.T) { // P10.1
	for _, h := range noHeights {
		for _, l := range [][]uint64{nil, {}, {0}, {0, 1}, {1, 0}, {lastOf32}} {
			refuseCover(t, "no height", h, l)
		}
	}
}

func TestCoverRefusesWhatIsNoSet(t *testing.T) { // P10.1
	for what, l := range map[string][]uint64{
		"falls":                 {1, 0},
		"one twice":             {1, 1},
		"the first leaf twice":  {0, 0, 1},
		"the last one falls":    {0, 1, 0},
		"beyond the last leaf":  {1 << 32},
		"the greatest number":   {0, math.MaxUint64},
		"around to 0":           {math.MaxUint64, 0},
		"1025 leaves":           stepped(1025, 0, 1),
		"1025 leaves, far ones": stepped(1025, lastOf32-2048, 2),
	} {
		for h := 1; h <= api.MaxHeight; h++ {
			refuseCover(t, what, h, l)
		}
	}
	for h := 1; h <= api.MaxHeight; h++ {
		for _, i := range noLeaves(h) {
			refuseCover(t, "no leaf of the height", h, []uint64{i})
			refuseCover(t, "no leaf of the height", h, []uint64{0, i})
		}
	}
}

func TestNothingHandedInIsChangedOrShared(t *testing.T) { // R2
	// Room behind the set's end, which a careless append would write into.
	room := []uint64{2, 3, 6, 99, 99}
	l := room[:3]
	c, _ := whole.Cover(3, l)
	none, _ := whole.Cover(3, l[:0])
	if !slices.Equal(room, []uint64{2, 3, 6, 99, 99}) {
		t.Fatalf("changed: %v", room)
	}
	for k := range room {
		room[k] = 88
	}
	if !slices.Equal(c, below(4, 6, 15)) || !slices.Equal(none, below(1)) {
		t.Errorf("got %v, %v", c, none)
	}
	for _, told := range [][]api.Subset{c, none} {
		clear(told[:cap(told)])
	}
	if !slices.Equal(room, []uint64{88, 88, 88, 88, 88}) {
		t.Errorf("shared: %v", room)
	}
	again, _ := whole.Cover(3, []uint64{2, 3, 6})
	empty, _ := whole.Cover(3, nil)
	if !slices.Equal(again, below(4, 6, 15)) || !slices.Equal(empty, below(1)) {
		t.Errorf("kept: %v, %v", again, empty)
	}
}
