package leaf_test

import (
	"math"
	"slices"
	"testing"

	"medlar/api"
	"medlar/leaf"
	"medlar/node"
)

// members is the set that the bits of a number tell: leaf i is in it, if bit i is 1.
func members(h int, bits uint64) []uint64 {
	var l []uint64
	for i := range uint64(1) << h {
		if bits>>i&1 == 1 {
			l = append(l, i)
		}
	}
	return l
}

// eachSet hands in each set of leaves of heights 1 to top, as a list, and as bits.
func eachSet(top int, do func(h int, l []uint64, bits uint64)) {
	for h := 1; h <= top; h++ {
		for bits := range uint64(1) << (1 << h) {
			do(h, members(h, bits), bits)
		}
	}
}

// stepped is n leaves, from one on, each a step from the one ahead of it.
func stepped(n int, from, step uint64) []uint64 {
	l := make([]uint64, n)
	for k := range l {
		l[k] = from + uint64(k)*step
	}
	return l
}

const lastOf32 = 1<<32 - 1

var noHeights = []int{math.MinInt, -64, -1, 0, api.MaxHeight + 1, 63, 64, math.MaxInt}

// noSets are lists that are no set of any height, each with what is wrong with it.
var noSets = map[string][]uint64{
	"falls":                 {1, 0},
	"one twice":             {1, 1},
	"the first leaf twice":  {0, 0, 1},
	"the last one falls":    {0, 1, 0},
	"beyond the last leaf":  {1 << 32},
	"the greatest number":   {0, math.MaxUint64},
	"around to 0":           {math.MaxUint64, 0},
	"1025 leaves":           stepped(1025, 0, 1),
	"1025 leaves, far ones": stepped(1025, lastOf32-2048, 2),
}

func noLeaves(h int) []uint64 {
	return []uint64{1 << h, 1<<h + 1, 1 << (h + 1), 1 << 33, 1 << 63, math.MaxUint64}
}

func noNodes(h int) []uint64 {
	return []uint64{0, 1 << (h + 1), 1<<(h+1) + 1, 1 << 34, 1 << 63, math.MaxUint64}
}

func TestCheckTellsSets(t *testing.T) { // P2.1
	eachSet(4, func(h int, l []uint64, _ uint64) {
		if e := leaf.Check(h, l); e != api.OK {
			t.Errorf("Check(%d, %v) = %d", h, l, e)
		}
	})
	for _, x := range []struct {
		h int
		l []uint64
		e api.Errno
	}{
		{1, nil, api.OK},
		{1, []uint64{}, api.OK},
		{32, nil, api.OK},
		{32, []uint64{0, lastOf32}, api.OK},
		{32, []uint64{lastOf32}, api.OK},
		{10, stepped(1024, 0, 1), api.OK},
		{32, stepped(1024, lastOf32-1023, 1), api.OK},
		{32, stepped(1024, 0, 1<<22), api.OK},
		{10, stepped(1024, 1, 1), api.ErrArg},
		{32, stepped(1024, lastOf32-1022, 1), api.ErrArg},
		{11, stepped(1025, 0, 1), api.ErrArg},
	} {
		if e := leaf.Check(x.h, x.l); e != x.e {
			t.Errorf("Check(%d, %d leaves) = %d", x.h, len(x.l), e)
		}
	}
}

func TestCheckHoldsEachShortListAgainstTheWords(t *testing.T) { // P2.1
	for a := range uint64(6) {
		for b := range uint64(6) {
			for c := range uint64(6) {
				l := []uint64{a, b, c}
				want := api.ErrArg
				if a < b && b < c && c < 4 {
					want = api.OK
				}
				if e := leaf.Check(2, l); e != want {
					t.Errorf("Check(2, %v) = %d", l, e)
				}
			}
		}
	}
}

func TestHasTellsWhatIsIn(t *testing.T) { // P2.1
	eachSet(3, func(h int, l []uint64, bits uint64) {
		for i := range uint64(1) << h {
			if is, e := leaf.Has(h, l, i); is != (bits>>i&1 == 1) || e != api.OK {
				t.Errorf("Has(%d, %v, %d) = %v, %d", h, l, i, is, e)
			}
		}
	})
	far := stepped(1024, lastOf32-2046, 2)
	for _, x := range []struct {
		i  uint64
		is bool
	}{{lastOf32, true}, {lastOf32 - 1, false}, {lastOf32 - 2046, true}, {lastOf32 - 2047, false}, {0, false}, {lastOf32 - 1000, true}, {lastOf32 - 1001, false}} {
		if is, e := leaf.Has(32, far, x.i); is != x.is || e != api.OK {
			t.Errorf("Has(32, .., %d) = %v, %d", x.i, is, e)
		}
	}
}

func TestWithAndWithoutOfEachSet(t *testing.T) { // P2.1
	eachSet(3, func(h int, l []uint64, bits uint64) {
		for i := range uint64(1) << h {
			with, e := leaf.With(h, l, i)
			without, f := leaf.Without(h, l, i)
			wantWith, wantWithout := members(h, bits|1<<i), members(h, bits&^(1<<i))
			wantE, wantF := api.OK, api.OK
			if bits>>i&1 == 1 {
				wantWith, wantE = nil, api.ErrThere
			} else {
				wantWithout, wantF = nil, api.ErrNone
			}
			if !slices.Equal(with, wantWith) || e != wantE {
				t.Errorf("With(%d, %v, %d) = %v, %d", h, l, i, with, e)
			}
			if !slices.Equal(without, wantWithout) || f != wantF {
				t.Errorf("Without(%d, %v, %d) = %v, %d", h, l, i, without, f)
			}
		}
	})
}

func TestWithAndWithoutAtTheEdges(t *testing.T) { // P2.1
	if l, e := leaf.With(32, nil, lastOf32); !slices.Equal(l, []uint64{lastOf32}) || e != api.OK {
		t.Errorf("got %v, %d", l, e)
	}
	if l, e := leaf.With(32, []uint64{lastOf32}, 0); !slices.Equal(l, []uint64{0, lastOf32}) || e != api.OK {
		t.Errorf("got %v, %d", l, e)
	}
	if l, e := leaf.Without(32, []uint64{0, lastOf32}, lastOf32); !slices.Equal(l, []uint64{0}) || e != api.OK {
		t.Errorf("got %v, %d", l, e)
	}
	if l, e := leaf.With(10, stepped(1023, 0, 1), 1023); !slices.Equal(l, stepped(1024, 0, 1)) || e != api.OK {
		t.Errorf("got %d leaves, %d", len(l), e)
	}
	if l, e := leaf.Without(10, stepped(1024, 0, 1), 0); !slices.Equal(l, stepped(1023, 1, 1)) || e != api.OK {
		t.Errorf("got %d leaves, %d", len(l), e)
	}
}

func TestWithOfAFullSet(t *testing.T) { // P2.1: a leaf that is in it is told ahead of its being full
	full := stepped(1024, 0, 2)
	for _, x := range []struct {
		h int
		l []uint64
		i uint64
		e api.Errno
	}{
		{11, full, 1, api.ErrFull},
		{11, full, 2047, api.ErrFull},
		{32, full, lastOf32, api.ErrFull},
		{11, full, 0, api.ErrThere},
		{11, full, 2046, api.ErrThere},
		{10, stepped(1024, 0, 1), 512, api.ErrThere},
		{11, full, 2048, api.ErrArg},
		{10, stepped(1024, 0, 1), 1024, api.ErrArg},
		{32, full, 1 << 32, api.ErrArg},
	} {
		if l, e := leaf.With(x.h, x.l, x.i); len(l) != 0 || e != x.e {
			t.Errorf("With(%d, .., %d) = %d leaves, %d", x.h, x.i, len(l), e)
		}
	}
}

func TestBelowAreThoseOfTheNode(t *testing.T) { // P2.2
	eachSet(3, func(h int, l []uint64, _ uint64) {
		for n := uint64(api.Root); n < 1<<(h+1); n++ {
			var want []uint64
			for _, i := range l {
				at, _ := node.Leaf(h, i)
				if above, _ := node.Above(h, n, at); above {
					want = append(want, i)
				}
			}
			if b, e := leaf.Below(h, l, n); !slices.Equal(b, want) || e != api.OK {
				t.Errorf("Below(%d, %v, %d) = %v, %d", h, l, n, b, e)
			}
		}
	})
	l := []uint64{0, 1, 1<<31 - 1, 1 << 31, lastOf32 - 1, lastOf32}
	for n, want := range map[uint64][]uint64{
		api.Root:  l,
		2:         l[:3],
		3:         l[3:],
		1 << 32:   l[:1],
		1 << 31:   l[:2],
		1<<32 + 2: nil,
		1<<32 - 1: l[4:],
		1<<33 - 1: l[5:],
	} {
		if b, e := leaf.Below(32, l, n); !slices.Equal(b, want) || e != api.OK {
			t.Errorf("Below(32, .., %d) = %v, %d", n, b, e)
		}
	}
	if b, e := leaf.Below(32, stepped(1024, 0, 1<<22), 3); !slices.Equal(b, stepped(512, 1<<31, 1<<22)) || e != api.OK {
		t.Errorf("got %d leaves, %d", len(b), e)
	}
}

func TestGapsAreAllTheOthers(t *testing.T) { // P2.3, P2.4
	eachSet(4, func(h int, l []uint64, bits uint64) {
		gaps, e := leaf.Gaps(h, l)
		if e != api.OK {
			t.Errorf("Gaps(%d, %v): %d", h, l, e)
		}
		var got []uint64
		for k, s := range gaps {
			if s.Low > s.High || k > 0 && gaps[k-1].High+1 >= s.Low {
				t.Fatalf("Gaps(%d, %v) = %v", h, l, gaps)
			}
			for i := s.Low; i <= s.High; i++ {
				got = append(got, i)
			}
		}
		if !slices.Equal(got, members(h, ^bits)) {
			t.Errorf("Gaps(%d, %v) = %v", h, l, gaps)
		}
	})
}

func TestGapsAtTheEdges(t *testing.T) { // P2.3
	for _, x := range []struct {
		h    int
		l    []uint64
		want []api.Span
	}{
		{2, []uint64{1}, []api.Span{{Low: 0, High: 0}, {Low: 2, High: 3}}},
		{1, nil, []api.Span{{Low: 0, High: 1}}},
		{1, []uint64{0}, []api.Span{{Low: 1, High: 1}}},
		{1, []uint64{1}, []api.Span{{Low: 0, High: 0}}},
		{1, []uint64{0, 1}, nil},
		{10, stepped(1024, 0, 1), nil},
		{32, nil, []api.Span{{Low: 0, High: lastOf32}}},
		{32, []uint64{0}, []api.Span{{Low: 1, High: lastOf32}}},
		{32, []uint64{lastOf32}, []api.Span{{Low: 0, High: lastOf32 - 1}}},
		{32, []uint64{0, lastOf32}, []api.Span{{Low: 1, High: lastOf32 - 1}}},
		{32, stepped(1024, 0, 1), []api.Span{{Low: 1024, High: lastOf32}}},
	} {
		if s, e := leaf.Gaps(x.h, x.l); !slices.Equal(s, x.want) || e != api.OK {
			t.Errorf("Gaps(%d, %d leaves) = %v, %d", x.h, len(x.l), s, e)
		}
	}
}

func TestManyOfEachShortList(t *testing.T) { // P2.3
	var spans []api.Span
	for low := range uint64(6) {
		for high := range uint64(6) {
			spans = append(spans, api.Span{Low: low, High: high})
		}
	}
	for _, a := range spans {
		checkMany(t, []api.Span{a})
		for _, b := range spans {
			checkMany(t, []api.Span{a, b})
			for _, c := range spans {
				checkMany(t, []api.Span{a, b, c})
			}
		}
	}
}

// checkMany holds Many against the leaves of height 2 that the spans have, told one by one.
func checkMany(t *testing.T, l []api.Span) {
	t.Helper()
	var all []uint64
	want := api.OK
	for _, s := range l {
		if s.Low > s.High {
			want = api.ErrArg
		}
		for i := s.Low; i <= s.High; i++ {
			all = append(all, i)
		}
	}
	for k, i := range all {
		if i > 3 || k > 0 && i <= all[k-1] {
			want = api.ErrArg
		}
	}
	many := uint64(len(all))
	if want != api.OK {
		many = 0
	}
	if n, e := leaf.Many(2, l); n != many || e != want {
		t.Errorf("Many(2, %v) = %d, %d", l, n, e)
	}
}

func TestManyAtTheEdges(t *testing.T) { // P2.3
	long := make([]api.Span, 5000)
	for k := range long {
		long[k] = api.Span{Low: uint64(3 * k), High: uint64(3*k + 1)}
	}
	for i, x := range []struct {
		h int
		l []api.Span
		n uint64
		e api.Errno
	}{
		{1, nil, 0, api.OK},
		{1, []api.Span{}, 0, api.OK},
		{1, []api.Span{{Low: 0, High: 1}}, 2, api.OK},
		{1, []api.Span{{Low: 0, High: 0}, {Low: 1, High: 1}}, 2, api.OK},
		{1, []api.Span{{Low: 0, High: 2}}, 0, api.ErrArg},
		{32, []api.Span{{Low: 0, High: lastOf32}}, 1 << 32, api.OK},
		{32, []api.Span{{Low: 0, High: 1<<31 - 1}, {Low: 1 << 31, High: lastOf32}}, 1 << 32, api.OK},
		{32, []api.Span{{Low: 0, High: 1 << 31}, {Low: 1 << 31, High: lastOf32}}, 0, api.ErrArg},
		{32, []api.Span{{Low: lastOf32, High: lastOf32}}, 1, api.OK},
		{32, []api.Span{{Low: 0, High: 1 << 32}}, 0, api.ErrArg},
		{32, []api.Span{{Low: 0, High: math.MaxUint64}}, 0, api.ErrArg},
		{32, []api.Span{{Low: 0, High: math.MaxUint64}, {Low: 0, High: 1}}, 0, api.ErrArg},
		{32, []api.Span{{Low: math.MaxUint64, High: math.MaxUint64}}, 0, api.ErrArg},
		{32, []api.Span{{Low: math.MaxUint64, High: 0}}, 0, api.ErrArg},
		{32, []api.Span{{Low: 5, High: 6}, {Low: 0, High: 1}}, 0, api.ErrArg},
		{32, []api.Span{{Low: 5, High: 6}, {Low: 5, High: 6}}, 0, api.ErrArg},
		{32, long, 10000, api.OK},
	} {
		if n, e := leaf.Many(x.h, x.l); n != x.n || e != x.e {
			t.Errorf("%d: got %d, %d", i, n, e)
		}
	}
}

func TestGapsAndTheSetAreAllLeaves(t *testing.T) { // P2.4
	check := func(h int, l []uint64, _ uint64) {
		gaps, _ := leaf.Gaps(h, l)
		n, e := leaf.Many(h, gaps)
		if n+uint64(len(l)) != 1<<h || e != api.OK {
			t.Errorf("%d, %d leaves: gaps have %d, %d", h, len(l), n, e)
		}
		for _, s := range gaps {
			for _, i := range []uint64{s.Low, s.High} {
				if is, f := leaf.Has(h, l, i); is || f != api.OK {
					t.Errorf("%d, %d leaves: %d is in a gap, and in the set", h, len(l), i)
				}
			}
		}
	}
	eachSet(3, check)
	for h := 10; h <= api.MaxHeight; h++ {
		check(h, nil, 0)
		check(h, stepped(1024, 0, 1), 0)
		check(h, stepped(1024, 1<<h-1024, 1), 0)
		check(h, stepped(512, 1, 2), 0)
	}
}

// refuse asks of every call of a set that it tells ErrArg, and zeros.
func refuse(t *testing.T, what string, h int, l []uint64, i, n uint64) {
	t.Helper()
	if is, e := leaf.Has(h, l, i); is || e != api.ErrArg {
		t.Errorf("%s: Has(%d, .., %d) = %v, %d", what, h, i, is, e)
	}
	if w, e := leaf.With(h, l, i); len(w) != 0 || e != api.ErrArg {
		t.Errorf("%s: With(%d, .., %d) = %v, %d", what, h, i, w, e)
	}
	if w, e := leaf.Without(h, l, i); len(w) != 0 || e != api.ErrArg {
		t.Errorf("%s: Without(%d, .., %d) = %v, %d", what, h, i, w, e)
	}
	if b, e := leaf.Below(h, l, n); len(b) != 0 || e != api.ErrArg {
		t.Errorf("%s: Below(%d, .., %d) = %v, %d", what, h, n, b, e)
	}
}

func refuseSet(t *testing.T, what string, h int, l []uint64) {
	t.Helper()
	if e := leaf.Check(h, l); e != api.ErrArg {
		t.Errorf("%s: Check(%d, ..) = %d", what, h, e)
	}
	if s, e := leaf.Gaps(h, l); len(s) != 0 || e != api.ErrArg {
		t.Errorf("%s: Gaps(%d, ..) = %v, %d", what, h, s, e)
	}
	for _, i := range []uint64{0, 1, 1 << 40} {
		refuse(t, what, h, l, i, api.Root)
	}
}

func TestNoSuchHeight(t *testing.T) { // P2.1 to P2.3
	for _, h := range noHeights {
		refuseSet(t, "no height", h, nil)
		refuseSet(t, "no height", h, []uint64{0, 1})
		for _, l := range [][]api.Span{nil, {{Low: 0, High: 0}}, {{Low: 1, High: 0}}} {
			if n, e := leaf.Many(h, l); n != 0 || e != api.ErrArg {
				t.Errorf("Many(%d, %v) = %d, %d", h, l, n, e)
			}
		}
	}
}

func TestNoSuchSet(t *testing.T) { // P2.1 to P2.3
	for what, l := range noSets {
		for h := 1; h <= api.MaxHeight; h++ {
			refuseSet(t, what, h, l)
		}
	}
	for h := 1; h <= api.MaxHeight; h++ {
		for _, i := range noLeaves(h) {
			refuseSet(t, "no leaf of the height", h, []uint64{0, i})
		}
	}
}

func TestNoSuchLeafOrNode(t *testing.T) { // P2.1, P2.2
	for h := 1; h <= api.MaxHeight; h++ {
		for k, i := range noLeaves(h) {
			refuse(t, "no leaf", h, nil, i, noNodes(h)[k])
			refuse(t, "no leaf", h, []uint64{0, 1}, i, noNodes(h)[k])
		}
	}
}

func TestNothingHandedInIsChangedOrShared(t *testing.T) { // R2
	// Room behind the set's end, which a careless append would write into.
	room := []uint64{2, 5, 7, 99, 99}
	l := room[:3]
	spans := []api.Span{{Low: 0, High: 1}, {Low: 3, High: 3}}
	with, _ := leaf.With(3, l, 3)
	last, _ := leaf.With(3, l[:2], 6)
	without, _ := leaf.Without(3, l, 5)
	end, _ := leaf.Without(3, l, 7)
	below, _ := leaf.Below(3, l, api.Root)
	gaps, _ := leaf.Gaps(3, l)
	leaf.Has(3, l, 5)
	leaf.Many(3, spans)
	if !slices.Equal(room, []uint64{2, 5, 7, 99, 99}) || !slices.Equal(spans, []api.Span{{Low: 0, High: 1}, {Low: 3, High: 3}}) {
		t.Fatalf("changed: %v, %v", room, spans)
	}
	for k := range room {
		room[k] = 88
	}
	for k, x := range []struct{ got, want []uint64 }{
		{with, []uint64{2, 3, 5, 7}}, {last, []uint64{2, 5, 6}}, {without, []uint64{2, 7}}, {end, []uint64{2, 5}}, {below, []uint64{2, 5, 7}},
	} {
		if !slices.Equal(x.got, x.want) {
			t.Errorf("%d: got %v, want %v", k, x.got, x.want)
		}
		clear(x.got[:cap(x.got)])
	}
	if !slices.Equal(gaps, []api.Span{{Low: 0, High: 1}, {Low: 3, High: 4}, {Low: 6, High: 6}}) || !slices.Equal(room, []uint64{88, 88, 88, 88, 88}) {
		t.Errorf("got %v, %v", gaps, room)
	}
}
