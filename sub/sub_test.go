package sub_test

import (
	"math"
	"slices"
	"testing"

	"medlar/api"
	"medlar/leaf"
	"medlar/node"
	"medlar/sub"
)

const lastOf32 = 1<<32 - 1

const topSmall = 5

var noHeights = []int{math.MinInt, -64, -1, 0, api.MaxHeight + 1, 63, 64, math.MaxInt}

func noNodes(h int) []uint64 {
	return []uint64{1 << (h + 1), 1<<(h+1) + 1, 1 << 34, 1 << 63, math.MaxUint64}
}

func noLeaves(h int) []uint64 {
	return []uint64{1 << h, 1<<h + 1, 1 << (h + 1), 1 << 33, 1 << 63, math.MaxUint64}
}

// upward is n, the node above it, and so on, to Root.
func upward(n uint64) []uint64 {
	var l []uint64
	for ; n >= api.Root; n /= 2 {
		l = append(l, n)
	}
	return l
}

func depth(n uint64) int { return len(upward(n)) - 1 }

// isSubset is the chapter's word: I is a node, J is 0, or another node, that I is above.
func isSubset(h int, s api.Subset) bool {
	end := uint64(1) << (h + 1)
	if s.I < api.Root || s.I >= end || s.J >= end {
		return false
	}
	return s.J == 0 || s.J != s.I && slices.Contains(upward(s.J), s.I)
}

// leavesOf are the leaves that I is above, and J is not, one by one.
func leavesOf(h int, s api.Subset) []uint64 {
	var l []uint64
	for i := range uint64(1) << h {
		up := upward(1<<h + i)
		if slices.Contains(up, s.I) && !slices.Contains(up, s.J) {
			l = append(l, i)
		}
	}
	return l
}

// eachSubset hands in each subset of heights 1 to topSmall.
func eachSubset(do func(h int, s api.Subset)) {
	for h := 1; h <= topSmall; h++ {
		for _, s := range subsets(h) {
			do(h, s)
		}
	}
}

func subsets(h int) []api.Subset {
	var l []api.Subset
	for i := uint64(1); i < 1<<(h+1); i++ {
		for j := range uint64(1) << (h + 1) {
			if s := (api.Subset{I: i, J: j}); isSubset(h, s) {
				l = append(l, s)
			}
		}
	}
	return l
}

// eachFar hands in subsets of every height, of every depth of I, and every deeper one of J: at the left, at the right, and within.
func eachFar(do func(h int, s api.Subset)) {
	for h := 1; h <= api.MaxHeight; h++ {
		for from := 0; from <= h; from++ {
			for _, bits := range []uint64{0, math.MaxUint64, 0x5a5ac3c396965a3c, 0xa5a53c3c6969a5c3} {
				i := uint64(1)<<from + bits>>(64-from)
				do(h, api.Subset{I: i})
				for to := from + 1; to <= h; to++ {
					do(h, api.Subset{I: i, J: uint64(1)<<to + bits>>(64-to)})
				}
			}
		}
	}
}

// step is the chapter's word: the least number whose square is no less than h.
func step(h int) int {
	for n := range h + 1 {
		if n*n >= h {
			return n
		}
	}
	return 0
}

func special(h int) []int {
	var l []int
	for d := range h + 1 {
		if d == 0 || d == h || d%step(h) == 0 {
			l = append(l, d)
		}
	}
	return l
}

func useful(h int, s api.Subset) bool {
	if s.J == 0 {
		return s.I == api.Root
	}
	from, to := depth(s.I), depth(s.J)
	between := slices.ContainsFunc(special(h), func(d int) bool { return from < d && d < to })
	return slices.Contains(special(h), from) || !between
}

func split(h int, s api.Subset) []api.Subset {
	if s.J == 0 || useful(h, s) {
		return []api.Subset{s}
	}
	for _, d := range special(h) {
		if d > depth(s.I) {
			up := upward(s.J)
			slices.Reverse(up)
			return []api.Subset{{I: s.I, J: up[d]}, {I: up[d], J: s.J}}
		}
	}
	return nil
}

func TestTheWordsFollowTheTree(t *testing.T) { // what the tests below lean on
	for _, x := range []struct {
		h       int
		special []int
	}{
		{1, []int{0, 1}}, {2, []int{0, 2}}, {3, []int{0, 2, 3}}, {4, []int{0, 2, 4}}, {5, []int{0, 3, 5}}, {16, []int{0, 4, 8, 12, 16}},
		{17, []int{0, 5, 10, 15, 17}}, {31, []int{0, 6, 12, 18, 24, 30, 31}}, {32, []int{0, 6, 12, 18, 24, 30, 32}},
	} {
		if got := special(x.h); !slices.Equal(got, x.special) {
			t.Errorf("%d: got %v", x.h, got)
		}
	}
	eachFar(func(h int, s api.Subset) {
		if !isSubset(h, s) {
			t.Errorf("%d: %v is none", h, s)
		}
	})
}

func TestCheckTellsSubsets(t *testing.T) { // P8.1
	for h := 1; h <= topSmall; h++ {
		for i := range uint64(1)<<(h+1) + 3 {
			for j := range uint64(1)<<(h+1) + 3 {
				want := api.ErrArg
				if isSubset(h, api.Subset{I: i, J: j}) {
					want = api.OK
				}
				if e := sub.Check(h, api.Subset{I: i, J: j}); e != want {
					t.Errorf("Check(%d, %d but %d) = %d", h, i, j, e)
				}
			}
		}
	}
	eachFar(func(h int, s api.Subset) {
		if e := sub.Check(h, s); e != api.OK {
			t.Errorf("Check(%d, %v) = %d", h, s, e)
		}
	})
}

func TestLeavesAreThoseOfIButThoseOfJ(t *testing.T) { // P8.1
	eachSubset(func(h int, s api.Subset) {
		spans, e := sub.Leaves(h, s)
		if e != api.OK {
			t.Errorf("Leaves(%d, %v): %d", h, s, e)
		}
		var got []uint64
		for k, x := range spans {
			if x.Low > x.High || k > 0 && spans[k-1].High+1 >= x.Low {
				t.Fatalf("Leaves(%d, %v) = %v", h, s, spans)
			}
			for i := x.Low; i <= x.High; i++ {
				got = append(got, i)
			}
		}
		if !slices.Equal(got, leavesOf(h, s)) {
			t.Errorf("Leaves(%d, %v) = %v", h, s, spans)
		}
	})
}

func TestLeavesAtTheEdges(t *testing.T) { // P8.1
	for _, x := range []struct {
		h    int
		i, j uint64
		want []api.Span
	}{
		{1, 1, 0, []api.Span{{Low: 0, High: 1}}},
		{1, 1, 2, []api.Span{{Low: 1, High: 1}}},
		{1, 1, 3, []api.Span{{Low: 0, High: 0}}},
		{1, 2, 0, []api.Span{{Low: 0, High: 0}}},
		{1, 3, 0, []api.Span{{Low: 1, High: 1}}},
		{3, 1, 4, []api.Span{{Low: 2, High: 7}}},
		{3, 1, 7, []api.Span{{Low: 0, High: 5}}},
		{3, 1, 5, []api.Span{{Low: 0, High: 1}, {Low: 4, High: 7}}},
		{3, 2, 9, []api.Span{{Low: 0, High: 0}, {Low: 2, High: 3}}},
		{32, 1, 0, []api.Span{{Low: 0, High: lastOf32}}},
		{32, 1, 2, []api.Span{{Low: 1 << 31, High: lastOf32}}},
		{32, 1, 3, []api.Span{{Low: 0, High: 1<<31 - 1}}},
		{32, 1, 1 << 32, []api.Span{{Low: 1, High: lastOf32}}},
		{32, 1, 1<<33 - 1, []api.Span{{Low: 0, High: lastOf32 - 1}}},
		{32, 1, 1<<32 + 1, []api.Span{{Low: 0, High: 0}, {Low: 2, High: lastOf32}}},
		{32, 1, 1<<33 - 2, []api.Span{{Low: 0, High: lastOf32 - 2}, {Low: lastOf32, High: lastOf32}}},
		{32, 3, 1<<32 + 1<<31, []api.Span{{Low: 1<<31 + 1, High: lastOf32}}},
		{32, 1<<32 - 1, 1<<33 - 2, []api.Span{{Low: lastOf32, High: lastOf32}}},
		{32, 1<<33 - 1, 0, []api.Span{{Low: lastOf32, High: lastOf32}}},
	} {
		if l, e := sub.Leaves(x.h, api.Subset{I: x.i, J: x.j}); !slices.Equal(l, x.want) || e != api.OK {
			t.Errorf("Leaves(%d, %d but %d) = %v, %d", x.h, x.i, x.j, l, e)
		}
	}
}

func TestLeavesAreAsManyAsAreLeft(t *testing.T) { // P8.1
	eachFar(func(h int, s api.Subset) {
		want := uint64(1) << (h - depth(s.I))
		if s.J != 0 {
			want -= 1 << (h - depth(s.J))
		}
		l, e := sub.Leaves(h, s)
		if many, f := leaf.Many(h, l); many != want || e != api.OK || f != api.OK {
			t.Errorf("Leaves(%d, %v) = %v, %d: %d, %d", h, s, l, e, many, f)
		}
		if s.J == 0 && len(l) != 1 || len(l) == 2 && l[0].High+1 >= l[1].Low || len(l) > 2 {
			t.Errorf("Leaves(%d, %v) = %v", h, s, l)
		}
	})
}

func TestHasTellsOfEachLeaf(t *testing.T) { // P8.1
	eachSubset(func(h int, s api.Subset) {
		all := leavesOf(h, s)
		for i := range uint64(1) << h {
			if is, e := sub.Has(h, s, i); is != slices.Contains(all, i) || e != api.OK {
				t.Errorf("Has(%d, %v, %d) = %v, %d", h, s, i, is, e)
			}
		}
	})
}

func TestHasBesideJ(t *testing.T) { // P8.1
	eachFar(func(h int, s api.Subset) {
		ask := []uint64{0, 1, 1<<h - 1, 1<<h - 2}
		for _, n := range []uint64{s.I, max(s.J, api.Root)} {
			l, _ := node.Leaves(h, n)
			// Those ahead of the first leaf, and behind the last one, are gone around to leaves again.
			ask = append(ask, l.Low, (l.Low-1)&(1<<h-1), l.High, (l.High+1)&(1<<h-1))
		}
		for _, i := range ask {
			up := upward(1<<h + i)
			want := slices.Contains(up, s.I) && !slices.Contains(up, s.J)
			if is, e := sub.Has(h, s, i); is != want || e != api.OK {
				t.Errorf("Has(%d, %v, %d) = %v, %d", h, s, i, is, e)
			}
		}
	})
}

func TestTouchOfAllPairs(t *testing.T) { // P8.1
	for h := 1; h <= 4; h++ {
		l := subsets(h)
		leaves := make([]uint64, len(l))
		for k, s := range l {
			for _, i := range leavesOf(h, s) {
				leaves[k] |= 1 << i
			}
		}
		for x, a := range l {
			for y, b := range l {
				if is, e := sub.Touch(h, a, b); is != (leaves[x]&leaves[y] != 0) || e != api.OK {
					t.Errorf("Touch(%d, %v, %v) = %v, %d", h, a, b, is, e)
				}
			}
		}
	}
}

func TestTouchAtTheEdges(t *testing.T) { // P8.1
	for _, x := range []struct {
		h    int
		a, b api.Subset
		want bool
	}{
		{32, api.Subset{I: 1}, api.Subset{I: 1}, true},
		{32, api.Subset{I: 1}, api.Subset{I: 1<<33 - 1}, true},
		{32, api.Subset{I: 1, J: 1<<33 - 1}, api.Subset{I: 1<<33 - 1}, false},
		{32, api.Subset{I: 1, J: 1<<33 - 1}, api.Subset{I: 1<<33 - 2}, true},
		{32, api.Subset{I: 1, J: 1 << 32}, api.Subset{I: 1 << 32}, false},
		{32, api.Subset{I: 1, J: 1 << 32}, api.Subset{I: 1<<32 + 1}, true},
		{32, api.Subset{I: 2}, api.Subset{I: 3}, false},
		{32, api.Subset{I: 1, J: 2}, api.Subset{I: 1, J: 3}, false},
		{32, api.Subset{I: 1, J: 2}, api.Subset{I: 1, J: 6}, true},
		{32, api.Subset{I: 2, J: 1 << 32}, api.Subset{I: 1 << 31, J: 1<<32 + 1}, false},
		{32, api.Subset{I: 2, J: 1 << 31}, api.Subset{I: 1 << 30, J: 1<<31 + 1}, false},
		{32, api.Subset{I: 2, J: 1 << 31}, api.Subset{I: 1 << 30, J: 1 << 31}, true},
		{1, api.Subset{I: 1, J: 2}, api.Subset{I: 1, J: 3}, false},
		{1, api.Subset{I: 1, J: 2}, api.Subset{I: 3}, true},
	} {
		is, e := sub.Touch(x.h, x.a, x.b)
		again, f := sub.Touch(x.h, x.b, x.a)
		if is != x.want || again != x.want || e != api.OK || f != api.OK {
			t.Errorf("Touch(%d, %v, %v) = %v, %d; turned %v, %d", x.h, x.a, x.b, is, e, again, f)
		}
	}
}

func TestLessIsByIThenByJ(t *testing.T) { // P8.1: of any numbers
	var rising []api.Subset
	numbers := []uint64{0, 1, 2, 3, 9, 1 << 32, 1<<33 - 1, 1 << 63, math.MaxUint64 - 1, math.MaxUint64}
	for _, i := range numbers {
		for _, j := range numbers {
			rising = append(rising, api.Subset{I: i, J: j})
		}
	}
	for x, a := range rising {
		for y, b := range rising {
			if sub.Less(a, b) != (x < y) {
				t.Errorf("Less(%v, %v) = %v", a, b, x >= y)
			}
		}
	}
}

func TestStepOfEachHeight(t *testing.T) { // P8.2
	for from, want := range map[int]int{1: 1, 2: 2, 5: 3, 10: 4, 17: 5, 26: 6} {
		for h := from; h <= min(want*want, api.MaxHeight); h++ {
			if n, e := sub.Step(h); n != want || e != api.OK {
				t.Errorf("Step(%d) = %d, %d", h, n, e)
			}
		}
	}
}

func checkUsefulAndSplit(t *testing.T, h int, s api.Subset) {
	t.Helper()
	if is, e := sub.Useful(h, s); is != useful(h, s) || e != api.OK {
		t.Errorf("Useful(%d, %v) = %v, %d", h, s, is, e)
	}
	if l, e := sub.Split(h, s); !slices.Equal(l, split(h, s)) || e != api.OK {
		t.Errorf("Split(%d, %v) = %v, %d", h, s, l, e)
	}
}

func TestUsefulAndSplitFollowTheWords(t *testing.T) { // P8.2
	check := func(h int, s api.Subset) { checkUsefulAndSplit(t, h, s) }
	eachSubset(check)
	eachFar(check)
}

func TestUsefulAndSplitByHand(t *testing.T) { // P8.2
	for _, x := range []struct {
		h    int
		s    api.Subset
		is   bool
		want []api.Subset
	}{
		{4, api.Subset{I: 2, J: 16}, false, []api.Subset{{I: 2, J: 4}, {I: 4, J: 16}}},
		{4, api.Subset{I: 3, J: 31}, false, []api.Subset{{I: 3, J: 7}, {I: 7, J: 31}}},
		{4, api.Subset{I: 3, J: 12}, false, []api.Subset{{I: 3, J: 6}, {I: 6, J: 12}}},
		{4, api.Subset{I: 3, J: 6}, true, []api.Subset{{I: 3, J: 6}}},
		{4, api.Subset{I: 8, J: 17}, true, []api.Subset{{I: 8, J: 17}}},
		{4, api.Subset{I: 1, J: 31}, true, []api.Subset{{I: 1, J: 31}}},
		{4, api.Subset{I: 16}, false, []api.Subset{{I: 16}}},
		{4, api.Subset{I: 4}, false, []api.Subset{{I: 4}}},
		{1, api.Subset{I: 1, J: 3}, true, []api.Subset{{I: 1, J: 3}}},
		{1, api.Subset{I: 1}, true, []api.Subset{{I: 1}}},
		{1, api.Subset{I: 2}, false, []api.Subset{{I: 2}}},
		{2, api.Subset{I: 2, J: 5}, true, []api.Subset{{I: 2, J: 5}}},
		{3, api.Subset{I: 2, J: 11}, false, []api.Subset{{I: 2, J: 5}, {I: 5, J: 11}}},
		{3, api.Subset{I: 5, J: 11}, true, []api.Subset{{I: 5, J: 11}}},
		{5, api.Subset{I: 4, J: 39}, false, []api.Subset{{I: 4, J: 9}, {I: 9, J: 39}}},
		// Depths 0, 6, 12, 18, 24, 30 and 32 are special.
		{32, api.Subset{I: 1, J: 1 << 32}, true, []api.Subset{{I: 1, J: 1 << 32}}},
		{32, api.Subset{I: 2, J: 1 << 32}, false, []api.Subset{{I: 2, J: 64}, {I: 64, J: 1 << 32}}},
		{32, api.Subset{I: 3, J: 1<<33 - 1}, false, []api.Subset{{I: 3, J: 127}, {I: 127, J: 1<<33 - 1}}},
		{32, api.Subset{I: 64, J: 1<<32 + 1}, true, []api.Subset{{I: 64, J: 1<<32 + 1}}},
		{32, api.Subset{I: 1 << 29, J: 1<<32 + 5}, false, []api.Subset{{I: 1 << 29, J: 1<<30 + 1}, {I: 1<<30 + 1, J: 1<<32 + 5}}},
		{32, api.Subset{I: 1 << 29, J: 1<<30 + 1}, true, []api.Subset{{I: 1 << 29, J: 1<<30 + 1}}},
		{32, api.Subset{I: 1 << 31, J: 1<<32 + 1}, true, []api.Subset{{I: 1 << 31, J: 1<<32 + 1}}},
		{32, api.Subset{I: 1<<33 - 1}, false, []api.Subset{{I: 1<<33 - 1}}},
	} {
		is, e := sub.Useful(x.h, x.s)
		l, f := sub.Split(x.h, x.s)
		if is != x.is || e != api.OK || !slices.Equal(l, x.want) || f != api.OK {
			t.Errorf("%d, %v: got %v, %d; %v, %d", x.h, x.s, is, e, l, f)
		}
	}
}

func TestSplitHasTheLeavesEachOnce(t *testing.T) { // P8.3
	eachSubset(func(h int, s api.Subset) {
		parts, _ := sub.Split(h, s)
		var got []uint64
		for _, p := range parts {
			for i := range uint64(1) << h {
				if is, _ := sub.Has(h, p, i); is {
					got = append(got, i)
				}
			}
		}
		slices.Sort(got)
		if !slices.Equal(got, leavesOf(h, s)) {
			t.Errorf("%d, %v: %v have %v", h, s, parts, got)
		}
	})
}

func TestSplitIsUsefulAndApart(t *testing.T) { // P8.3
	check := func(h int, s api.Subset) {
		parts, e := sub.Split(h, s)
		if e != api.OK || len(parts) == 0 || len(parts) > 2 {
			t.Fatalf("Split(%d, %v) = %v, %d", h, s, parts, e)
		}
		var sum uint64
		for _, p := range parts {
			if is, f := sub.Useful(h, p); p.J != 0 && !is || f != api.OK {
				t.Errorf("Useful(%d, %v) = %v, %d", h, p, is, f)
			}
			l, _ := sub.Leaves(h, p)
			many, _ := leaf.Many(h, l)
			sum += many
		}
		all, _ := sub.Leaves(h, s)
		if many, _ := leaf.Many(h, all); many != sum {
			t.Errorf("%d, %v: %v have %d leaves", h, s, parts, sum)
		}
		if len(parts) == 2 {
			if is, f := sub.Touch(h, parts[0], parts[1]); is || f != api.OK {
				t.Errorf("Touch(%d, %v) = %v, %d", h, parts, is, f)
			}
		}
	}
	eachSubset(check)
	eachFar(check)
}

// refuse asks of every call of a subset that it tells ErrArg, and zeros.
func refuse(t *testing.T, what string, h int, s api.Subset) {
	t.Helper()
	if e := sub.Check(h, s); e != api.ErrArg {
		t.Errorf("%s: Check(%d, %v) = %d", what, h, s, e)
	}
	if l, e := sub.Leaves(h, s); len(l) != 0 || e != api.ErrArg {
		t.Errorf("%s: Leaves(%d, %v) = %v, %d", what, h, s, l, e)
	}
	for _, i := range []uint64{0, 1, math.MaxUint64} {
		if is, e := sub.Has(h, s, i); is || e != api.ErrArg {
			t.Errorf("%s: Has(%d, %v, %d) = %v, %d", what, h, s, i, is, e)
		}
	}
	for _, other := range []api.Subset{{I: 1}, {I: 1, J: 2}, s, {}} {
		if is, e := sub.Touch(h, s, other); is || e != api.ErrArg {
			t.Errorf("%s: Touch(%d, %v, %v) = %v, %d", what, h, s, other, is, e)
		}
		if is, e := sub.Touch(h, other, s); is || e != api.ErrArg {
			t.Errorf("%s: Touch(%d, %v, %v) = %v, %d", what, h, other, s, is, e)
		}
	}
	if is, e := sub.Useful(h, s); is || e != api.ErrArg {
		t.Errorf("%s: Useful(%d, %v) = %v, %d", what, h, s, is, e)
	}
	if l, e := sub.Split(h, s); len(l) != 0 || e != api.ErrArg {
		t.Errorf("%s: Split(%d, %v) = %v, %d", what, h, s, l, e)
	}
}

func TestNoSuchHeight(t *testing.T) { // P8.1, P8.2
	for _, h := range noHeights {
		for _, s := range []api.Subset{{I: 1}, {I: 1, J: 2}, {I: 1, J: 1 << 32}, {I: 2, J: 16}, {}} {
			refuse(t, "no height", h, s)
		}
		if n, e := sub.Step(h); n != 0 || e != api.ErrArg {
			t.Errorf("Step(%d) = %d, %d", h, n, e)
		}
	}
}

func TestNoSuchSubset(t *testing.T) { // P8.1, P8.2
	for h := 1; h <= api.MaxHeight; h++ {
		last := uint64(1)<<(h+1) - 1
		refuse(t, "I is 0", h, api.Subset{})
		refuse(t, "I is 0", h, api.Subset{J: 1})
		for _, n := range noNodes(h) {
			refuse(t, "I is no node", h, api.Subset{I: n})
			refuse(t, "I is no node", h, api.Subset{I: n, J: 2})
			refuse(t, "I is no node", h, api.Subset{I: n, J: 2 * n})
			refuse(t, "J is no node", h, api.Subset{I: 1, J: n})
			refuse(t, "J is no node", h, api.Subset{I: last, J: n})
		}
		for _, n := range []uint64{1, 2, 3, last / 2, last - 1, last} {
			refuse(t, "J is I", h, api.Subset{I: n, J: n})
		}
		refuse(t, "J is above I", h, api.Subset{I: 2, J: 1})
		refuse(t, "J is above I", h, api.Subset{I: last, J: 1})
		refuse(t, "J is above I", h, api.Subset{I: last, J: last / 2})
		refuse(t, "J is beside I", h, api.Subset{I: 2, J: 3})
		refuse(t, "J is beside I", h, api.Subset{I: 3, J: 2})
		refuse(t, "J is beside I", h, api.Subset{I: last, J: last - 1})
		refuse(t, "J is below what is beside I", h, api.Subset{I: 2, J: last})
		refuse(t, "J is below a leaf", h, api.Subset{I: last, J: 2*last + 1})
	}
}

func TestNoSuchLeaf(t *testing.T) { // P8.1
	for h := 1; h <= api.MaxHeight; h++ {
		for _, i := range noLeaves(h) {
			for _, s := range []api.Subset{{I: 1}, {I: 1, J: 2}, {I: 1, J: 3}, {I: 3}} {
				if is, e := sub.Has(h, s, i); is || e != api.ErrArg {
					t.Errorf("Has(%d, %v, %d) = %v, %d", h, s, i, is, e)
				}
			}
		}
	}
}

func TestWhatIsToldIsNew(t *testing.T) { // R2
	for _, s := range []api.Subset{{I: 2, J: 16}, {I: 1, J: 9}, {I: 1}, {I: 2}} {
		l, _ := sub.Leaves(4, s)
		parts, _ := sub.Split(4, s)
		wantL, wantParts := slices.Clone(l), slices.Clone(parts)
		clear(l[:cap(l)])
		clear(parts[:cap(parts)])
		again, _ := sub.Leaves(4, s)
		partsAgain, _ := sub.Split(4, s)
		if !slices.Equal(again, wantL) || !slices.Equal(partsAgain, wantParts) {
			t.Errorf("%v: got %v, %v", s, again, partsAgain)
		}
		if is, e := sub.Has(4, s, wantL[0].Low); !is || e != api.OK {
			t.Errorf("%v: got %v, %d", s, is, e)
		}
	}
}
