package steiner_test

import (
	"maps"
	"math"
	"slices"
	"testing"

	"medlar/api"
	"medlar/leaf"
	"medlar/node"
	"medlar/steiner"
)

const lastOf32 = 1<<32 - 1

// topSmall is up to which height each set of leaves is tried.
const topSmall = 4

var noHeights = []int{math.MinInt, -64, -1, 0, api.MaxHeight + 1, 63, 64, math.MaxInt}

func noNodes(h int) []uint64 {
	return []uint64{0, 1 << (h + 1), 1<<(h+1) + 1, 1 << 34, 1 << 63, math.MaxUint64}
}

func noLeaves(h int) []uint64 {
	return []uint64{1 << h, 1<<h + 1, 1 << (h + 1), 1 << 33, 1 << 63, math.MaxUint64}
}

// members is the set that the bits of a number tell: leaf i is in it, if bit i is 1.
func members(h int, bits uint64) []uint64 {
	var l []uint64
	for i := range uint64(1) << h {
		if bits>>i&1 == 1 {
			l = append(l, i)
		}
	}
	return l
}

// stepped is n leaves, from one on, each a step from the one ahead of it.
func stepped(n int, from, step uint64) []uint64 {
	l := make([]uint64, n)
	for k := range l {
		l[k] = from + uint64(k)*step
	}
	return l
}

// scattered is about n leaves of a height, all over it.
func scattered(h, n int) []uint64 {
	var l []uint64
	for k := range uint64(n) {
		l = append(l, (k*0x9e3779b97f4a7c15+0x5851f42d)>>(64-h))
	}
	slices.Sort(l)
	return slices.Compact(l)
}

// upward is n, the node above it, and so on, to Root.
func upward(n uint64) []uint64 {
	var l []uint64
	for ; n >= api.Root; n /= 2 {
		l = append(l, n)
	}
	return l
}

// plain is a set's tree by the chapter's words: of each of its nodes, how many of the set's leaves that is above, and the first one of them.
type plain struct {
	h     int
	l     []uint64
	many  map[uint64]int
	first map[uint64]uint64
}

func draw(h int, l []uint64) plain {
	p := plain{h: h, l: l, many: map[uint64]int{}, first: map[uint64]uint64{}}
	for _, i := range l {
		for _, n := range upward(1<<h + i) {
			if p.many[n] == 0 {
				p.first[n] = i
			}
			p.many[n]++
		}
	}
	return p
}

func (p plain) nodes() []uint64 { return slices.Sorted(maps.Keys(p.many)) }

func (p plain) isIn(n uint64) bool { return p.many[n] > 0 }

func (p plain) forks() []uint64 {
	var l []uint64
	for _, n := range p.nodes() {
		if p.isIn(n+n) && p.isIn(n+n+1) {
			l = append(l, n)
		}
	}
	return l
}

func (p plain) hang() []uint64 {
	if len(p.l) == 0 {
		return []uint64{api.Root}
	}
	var l []uint64
	for n := range p.many {
		for _, c := range []uint64{n + n, n + n + 1} {
			if n < 1<<p.h && !p.isIn(c) {
				l = append(l, c)
			}
		}
	}
	slices.Sort(l)
	return l
}

// down goes up from the first leaf below n: the first node above as many of the set's leaves as n is the deepest one above them all.
func (p plain) down(n uint64) uint64 {
	for _, m := range upward(1<<p.h + p.first[n]) {
		if p.many[m] >= p.many[n] {
			return m
		}
	}
	return 0
}

// eachSet hands in each set of leaves of heights 1 to topSmall.
func eachSet(do func(h int, l []uint64)) {
	for h := 1; h <= topSmall; h++ {
		for bits := range uint64(1) << (1 << h) {
			do(h, members(h, bits))
		}
	}
}

// eachFar hands in sets of every height: none, one leaf, few side by side, at the ends, and far down, and as many as may be.
func eachFar(do func(h int, l []uint64)) {
	for h := 1; h <= api.MaxHeight; h++ {
		last := uint64(1)<<h - 1
		for _, l := range [][]uint64{nil, {0}, {last}, {last / 3}, {0, 1}, {0, last}, {last - 1, last}, {last / 2, last/2 + 1}} {
			do(h, l)
		}
		if h >= 4 {
			do(h, []uint64{last/3 - 1, last / 3, last/3 + 3})
			do(h, []uint64{0, 1, 3, last / 2, last/2 + 1, last - 3, last})
		}
		do(h, scattered(h, 40))
		if h >= 10 {
			for _, l := range [][]uint64{stepped(1024, 0, 1), stepped(1024, last-1023, 1), stepped(1024, 0, 1<<(h-10)), stepped(512, 1, 2), scattered(h, 1000)} {
				do(h, l)
			}
		}
	}
}

func TestTheDrawnTreeIsThatOfTheWords(t *testing.T) { // what the tests below lean on
	p := draw(3, []uint64{2, 3, 6})
	if !slices.Equal(p.nodes(), []uint64{1, 2, 3, 5, 7, 10, 11, 14}) || !slices.Equal(p.forks(), []uint64{1, 5}) || !slices.Equal(p.hang(), []uint64{4, 6, 15}) {
		t.Errorf("got %v, %v, %v", p.nodes(), p.forks(), p.hang())
	}
	for n, want := range map[uint64]uint64{1: 1, 2: 5, 3: 14, 5: 5, 7: 14, 10: 10, 11: 11, 14: 14} {
		if got := p.down(n); got != want {
			t.Errorf("down %d: got %d", n, got)
		}
	}
	eachFar(func(h int, l []uint64) {
		if e := leaf.Check(h, l); e != api.OK {
			t.Errorf("%d, %d leaves: no set", h, len(l))
		}
	})
}

// checkLists holds what is told of a whole set against the drawn tree.
func checkLists(t *testing.T, p plain) {
	t.Helper()
	if n, e := steiner.Many(p.h, p.l); n != len(p.many) || e != api.OK {
		t.Errorf("Many(%d, %v) = %d, %d", p.h, p.l, n, e)
	}
	if l, e := steiner.Forks(p.h, p.l); !slices.Equal(l, p.forks()) || e != api.OK {
		t.Errorf("Forks(%d, %v) = %v, %d", p.h, p.l, l, e)
	}
	if l, e := steiner.Hang(p.h, p.l); !slices.Equal(l, p.hang()) || e != api.OK {
		t.Errorf("Hang(%d, %v) = %v, %d", p.h, p.l, l, e)
	}
}

// checkNode holds what is told of a node against the drawn tree.
func checkNode(t *testing.T, p plain, n uint64) {
	t.Helper()
	if is, e := steiner.Is(p.h, p.l, n); is != p.isIn(n) || e != api.OK {
		t.Errorf("Is(%d, %v, %d) = %v, %d", p.h, p.l, n, is, e)
	}
	want, wantE := uint64(0), api.ErrNone
	if p.isIn(n) {
		want, wantE = p.down(n), api.OK
	}
	if d, e := steiner.Down(p.h, p.l, n); d != want || e != wantE {
		t.Errorf("Down(%d, %v, %d) = %d, %d", p.h, p.l, n, d, e)
	}
}

func TestEachSetOfSmallHeights(t *testing.T) { // P9.1, P9.2
	eachSet(func(h int, l []uint64) {
		p := draw(h, l)
		checkLists(t, p)
		for n := uint64(api.Root); n < 1<<(h+1); n++ {
			checkNode(t, p, n)
		}
	})
}

func TestSetsOfGreatHeights(t *testing.T) { // P9.1, P9.2
	eachFar(func(h int, l []uint64) {
		p := draw(h, l)
		checkLists(t, p)
		ask := slices.Concat(p.nodes(), p.hang(), []uint64{1 << h, 1<<(h+1) - 1})
		// What lies below a node that hangs is not of the tree either; of many nodes some tell enough.
		for k := 0; k < len(ask); k += 1 + len(ask)/500 {
			checkNode(t, p, ask[k])
			checkNode(t, p, min(2*ask[k], 1<<(h+1)-1))
		}
	})
}

func TestByHand(t *testing.T) { // P9.1, P9.2: what is told, and in which order
	for _, x := range []struct {
		what        string
		h           int
		l           []uint64
		many        int
		forks, hang []uint64
	}{
		{"the chapter's example", 2, []uint64{1}, 3, nil, []uint64{3, 4}},
		{"an empty set", 3, nil, 0, nil, []uint64{1}},
		{"an empty set, least height", 1, []uint64{}, 0, nil, []uint64{1}},
		{"an empty set, greatest height", 32, nil, 0, nil, []uint64{1}},
		{"the first leaf", 3, []uint64{0}, 4, nil, []uint64{3, 5, 9}},
		{"the last leaf", 3, []uint64{7}, 4, nil, []uint64{2, 6, 14}},
		{"one within", 3, []uint64{5}, 4, nil, []uint64{2, 7, 12}},
		{"one, least height", 1, []uint64{1}, 2, nil, []uint64{2}},
		{"all leaves, least height", 1, []uint64{0, 1}, 3, []uint64{1}, nil},
		{"all leaves", 3, stepped(8, 0, 1), 15, []uint64{1, 2, 3, 4, 5, 6, 7}, nil},
		{"all but one", 3, []uint64{0, 1, 2, 4, 5, 6, 7}, 14, []uint64{1, 2, 3, 4, 6, 7}, []uint64{11}},
		{"side by side, below one", 3, []uint64{4, 5}, 5, []uint64{6}, []uint64{2, 7}},
		{"side by side, below two", 3, []uint64{3, 4}, 7, []uint64{1}, []uint64{4, 7, 10, 13}},
		{"at the two ends", 3, []uint64{0, 7}, 7, []uint64{1}, []uint64{5, 6, 9, 14}},
		{"forks at leaves, and at Root", 3, []uint64{0, 1, 6, 7}, 9, []uint64{1, 4, 7}, []uint64{5, 6}},
		{"every second one", 3, []uint64{0, 2, 4, 6}, 11, []uint64{1, 2, 3}, []uint64{9, 11, 13, 15}},
		{"below one node far down", 4, []uint64{8, 10, 11}, 8, []uint64{6, 13}, []uint64{2, 7, 25}},
		{"hangs right, then deeper left", 4, []uint64{0, 2, 12, 15}, 13, []uint64{1, 4, 7}, []uint64{5, 6, 17, 19, 29, 30}},
	} {
		many, e := steiner.Many(x.h, x.l)
		forks, f := steiner.Forks(x.h, x.l)
		hang, g := steiner.Hang(x.h, x.l)
		if many != x.many || !slices.Equal(forks, x.forks) || !slices.Equal(hang, x.hang) || e != api.OK || f != api.OK || g != api.OK {
			t.Errorf("%s: got %d, %v, %v; %d, %d, %d", x.what, many, forks, hang, e, f, g)
		}
	}
}

func TestIsAndDownByHand(t *testing.T) { // P9.1
	far := []uint64{5, 1 << 31, 1<<31 + 1, lastOf32}
	right := []uint64{6, 7}
	for _, x := range []struct {
		what    string
		h       int
		l       []uint64
		n, down uint64
		e       api.Errno
	}{
		{"Root, of none", 3, nil, 1, 0, api.ErrNone},
		{"a leaf's node, of none", 3, nil, 8, 0, api.ErrNone},
		{"Root, above several", 3, []uint64{2, 6}, 1, 1, api.OK},
		{"Root, above one", 3, []uint64{2}, 1, 10, api.OK},
		{"Root, all on one side", 3, right, 1, 7, api.OK},
		{"a node, all on one side", 3, right, 3, 7, api.OK},
		{"a fork of two leaves", 3, right, 7, 7, api.OK},
		{"a leaf's node that is in it", 3, right, 15, 15, api.OK},
		{"a leaf's node that is not", 3, right, 13, 0, api.ErrNone},
		{"what hangs", 3, right, 6, 0, api.ErrNone},
		{"below what hangs", 3, right, 8, 0, api.ErrNone},
		{"all on the other side", 3, []uint64{0, 2}, 1, 2, api.OK},
		{"above one of several", 3, []uint64{0, 6}, 2, 8, api.OK},
		{"all leaves", 3, stepped(8, 0, 1), 6, 6, api.OK},
		{"least height", 1, []uint64{1}, 1, 3, api.OK},
		{"least height, not in it", 1, []uint64{1}, 2, 0, api.ErrNone},
		{"Root, far", 32, far, 1, 1, api.OK},
		{"one far below", 32, far, 2, 1<<32 + 5, api.OK},
		{"several far below", 32, far, 3, 3, api.OK},
		{"two far below", 32, far, 6, 1<<31 + 1<<30, api.OK},
		{"the last one", 32, far, 7, 1<<33 - 1, api.OK},
		{"the last one's node", 32, far, 1<<33 - 1, 1<<33 - 1, api.OK},
		{"beside the last one's node", 32, far, 1<<33 - 2, 0, api.ErrNone},
		{"the first one's node", 32, far, 1 << 32, 0, api.ErrNone},
	} {
		is, e := steiner.Is(x.h, x.l, x.n)
		d, f := steiner.Down(x.h, x.l, x.n)
		if is != (x.e == api.OK) || e != api.OK || d != x.down || f != x.e {
			t.Errorf("%s: got %v, %d; %d, %d", x.what, is, e, d, f)
		}
	}
}

func TestGreatestHeightByHand(t *testing.T) { // P9.1, P9.2
	var left, right []uint64
	for k := range 32 {
		left = append(left, 2<<k+1)
		right = append(right, 4<<k-2)
	}
	for i, x := range []struct {
		l           []uint64
		many        int
		forks, hang []uint64
	}{
		{[]uint64{0}, 33, nil, left},
		{[]uint64{lastOf32}, 33, nil, right},
		{[]uint64{0, 1}, 34, []uint64{1 << 31}, left[:31]},
		{[]uint64{lastOf32 - 1, lastOf32}, 34, []uint64{1<<32 - 1}, right[:31]},
	} {
		many, e := steiner.Many(32, x.l)
		forks, f := steiner.Forks(32, x.l)
		hang, g := steiner.Hang(32, x.l)
		if many != x.many || !slices.Equal(forks, x.forks) || !slices.Equal(hang, x.hang) || e != api.OK || f != api.OK || g != api.OK {
			t.Errorf("%d: got %d, %v, %v; %d, %d, %d", i, many, forks, hang, e, f, g)
		}
	}
}

func TestAsManyLeavesAsMayBe(t *testing.T) { // P9.1, P9.2
	var leftForks, farHang []uint64
	for d := 1; d <= 10; d++ {
		leftForks = append(leftForks, stepped(1<<(d-1), 1<<d, 1)...)
	}
	for d := 11; d <= 32; d++ {
		farHang = append(farHang, stepped(1024, 1<<d+1, 1<<(d-10))...)
	}
	for _, x := range []struct {
		what        string
		h           int
		l           []uint64
		many        int
		forks, hang []uint64
	}{
		{"all leaves", 10, stepped(1024, 0, 1), 2047, stepped(1023, 1, 1), nil},
		{"every second one", 11, stepped(1024, 0, 2), 3071, stepped(1023, 1, 1), stepped(1024, 1<<11+1, 2)},
		{"the left half", 11, stepped(1024, 0, 1), 2048, leftForks, []uint64{3}},
		{"far apart", 32, stepped(1024, 0, 1<<22), 2047 + 1024*22, stepped(1023, 1, 1), farHang},
	} {
		many, e := steiner.Many(x.h, x.l)
		forks, f := steiner.Forks(x.h, x.l)
		hang, g := steiner.Hang(x.h, x.l)
		if many != x.many || e != api.OK || f != api.OK || g != api.OK {
			t.Errorf("%s: got %d; %d, %d, %d", x.what, many, e, f, g)
		}
		if !slices.Equal(forks, x.forks) || !slices.Equal(hang, x.hang) {
			t.Errorf("%s: got %d forks, and %d that hang", x.what, len(forks), len(hang))
		}
	}
}

func TestManyCountsWhatIsTells(t *testing.T) { // P9.1
	check := func(h int, l []uint64, ask []uint64) {
		count := 0
		for _, n := range ask {
			if is, _ := steiner.Is(h, l, n); is {
				count++
			}
		}
		if n, e := steiner.Many(h, l); n != count || e != api.OK {
			t.Errorf("Many(%d, %v) = %d, %d: Is tells %d", h, l, n, e, count)
		}
	}
	eachSet(func(h int, l []uint64) { check(h, l, stepped(2<<h-1, api.Root, 1)) })
	check(10, stepped(512, 0, 2), stepped(2<<10-1, api.Root, 1))
	check(12, scattered(12, 300), stepped(2<<12-1, api.Root, 1))
}

func TestOneForkLessThanLeaves(t *testing.T) { // P9.3
	check := func(h int, l []uint64) {
		forks, e := steiner.Forks(h, l)
		if len(forks) != max(len(l), 1)-1 || e != api.OK {
			t.Errorf("%d, %v: forks %v, %d", h, l, forks, e)
		}
	}
	eachSet(check)
	eachFar(check)
}

// joined are spans in order, those that touch as one, if no two of them meet.
func joined(spans []api.Span) (l []api.Span, apart bool) {
	slices.SortFunc(spans, func(a, b api.Span) int { return int(a.Low) - int(b.Low) })
	for _, s := range spans {
		switch k := len(l) - 1; {
		case k >= 0 && s.Low <= l[k].High:
			return nil, false
		case k >= 0 && s.Low == l[k].High+1:
			l[k].High = s.High
		default:
			l = append(l, s)
		}
	}
	return l, true
}

func TestWhatHangsHasAllOthersEachOnce(t *testing.T) { // P9.3
	check := func(h int, l []uint64) {
		hang, e := steiner.Hang(h, l)
		var spans []api.Span
		for _, n := range hang {
			s, _ := node.Leaves(h, n)
			spans = append(spans, s)
		}
		want, _ := leaf.Gaps(h, l)
		if got, apart := joined(spans); !apart || !slices.Equal(got, want) || e != api.OK {
			t.Errorf("%d, %v: %v have %v, %v, %d", h, l, hang, got, apart, e)
		}
	}
	eachSet(check)
	eachFar(check)
}

// refuse asks of every call that it tells ErrArg, and zeros.
func refuse(t *testing.T, what string, h int, l []uint64) {
	t.Helper()
	if n, e := steiner.Many(h, l); n != 0 || e != api.ErrArg {
		t.Errorf("%s: Many(%d, ..) = %d, %d", what, h, n, e)
	}
	if f, e := steiner.Forks(h, l); len(f) != 0 || e != api.ErrArg {
		t.Errorf("%s: Forks(%d, ..) = %v, %d", what, h, f, e)
	}
	if f, e := steiner.Hang(h, l); len(f) != 0 || e != api.ErrArg {
		t.Errorf("%s: Hang(%d, ..) = %v, %d", what, h, f, e)
	}
	for _, n := range []uint64{0, api.Root, 2, 3, 1 << 32, math.MaxUint64} {
		refuseNode(t, what, h, l, n)
	}
}

func refuseNode(t *testing.T, what string, h int, l []uint64, n uint64) {
	t.Helper()
	if is, e := steiner.Is(h, l, n); is || e != api.ErrArg {
		t.Errorf("%s: Is(%d, .., %d) = %v, %d", what, h, n, is, e)
	}
	if d, e := steiner.Down(h, l, n); d != 0 || e != api.ErrArg {
		t.Errorf("%s: Down(%d, .., %d) = %d, %d", what, h, n, d, e)
	}
}

func TestNoSuchHeight(t *testing.T) { // P9.1, P9.2
	for _, h := range noHeights {
		for _, l := range [][]uint64{nil, {0}, {0, 1}, {1, 0}, {lastOf32}} {
			refuse(t, "no height", h, l)
		}
	}
}

func TestNoSuchSet(t *testing.T) { // P9.1, P9.2
	for what, l := range map[string][]uint64{
		"falls":                 {1, 0},
		"one twice":             {1, 1},
		"the first leaf twice":  {0, 0, 1},
		"the last one falls":    {0, 1, 0},
		"beyond the last leaf":  {1 << 32},
		"the greatest number":   {0, math.MaxUint64},
		"around to 0":           {math.MaxUint64, 0},
		"1025 leaves":           stepped(1025, 0, 1),
		"1025 leaves, far ones": stepped(1025, lastOf32-2048, 2),
	} {
		for h := 1; h <= api.MaxHeight; h++ {
			refuse(t, what, h, l)
		}
	}
	for h := 1; h <= api.MaxHeight; h++ {
		for _, i := range noLeaves(h) {
			refuse(t, "no leaf of the height", h, []uint64{i})
			refuse(t, "no leaf of the height", h, []uint64{0, i})
		}
	}
}

func TestNoSuchNode(t *testing.T) { // P9.1: told ahead of a node's not being of the tree
	for h := 1; h <= api.MaxHeight; h++ {
		for _, n := range noNodes(h) {
			for _, l := range [][]uint64{nil, {0}, {0, 1}, {1<<h - 1}} {
				refuseNode(t, "no node", h, l, n)
			}
		}
	}
}

func TestNothingHandedInIsChangedOrShared(t *testing.T) { // R2
	// Room behind the set's end, which a careless append would write into.
	room := []uint64{2, 3, 6, 99, 99}
	l := room[:3]
	forks, _ := steiner.Forks(3, l)
	hang, _ := steiner.Hang(3, l)
	none, _ := steiner.Hang(3, l[:0])
	steiner.Is(3, l, 2)
	steiner.Down(3, l, 1)
	steiner.Many(3, l)
	if !slices.Equal(room, []uint64{2, 3, 6, 99, 99}) {
		t.Fatalf("changed: %v", room)
	}
	for k := range room {
		room[k] = 88
	}
	if !slices.Equal(forks, []uint64{1, 5}) || !slices.Equal(hang, []uint64{4, 6, 15}) || !slices.Equal(none, []uint64{api.Root}) {
		t.Errorf("got %v, %v, %v", forks, hang, none)
	}
	for _, told := range [][]uint64{forks, hang, none} {
		clear(told[:cap(told)])
	}
	if !slices.Equal(room, []uint64{88, 88, 88, 88, 88}) {
		t.Errorf("shared: %v", room)
	}
	again, _ := steiner.Hang(3, []uint64{2, 3, 6})
	empty, _ := steiner.Hang(3, nil)
	if !slices.Equal(again, []uint64{4, 6, 15}) || !slices.Equal(empty, []uint64{api.Root}) {
		t.Errorf("kept: %v, %v", again, empty)
	}
}
