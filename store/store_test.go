package store_test

import (
	"math"
	"slices"
	"strconv"
	"strings"
	"testing"

	"medlar/api"
	"medlar/label"
	"medlar/layer"
	"medlar/mix"
	"medlar/seal"
	"medlar/store"
	"medlar/sub"
	"medlar/term"
	"medlar/value"
)

const ones = math.MaxUint64

const lastOf32 = 1<<32 - 1

// topSmall is up to which height each leaf is tried.
const topSmall = 5

var schemes = []int{api.WholeS, api.DiffS, api.LayerS}

var noSchemes = []int{math.MinInt, -1, 0, 4, 5, 1<<32 + 1, 1<<32 + 3, math.MaxInt}

var noHeights = []int{math.MinInt, -64, -1, 0, api.MaxHeight + 1, 63, 64, math.MaxInt}

func noLeaves(h int) []uint64 {
	return []uint64{1 << h, 1<<h + 1, 1 << (h + 1), 1 << 33, 1 << 63, ones}
}

// leaves are those of a height: all, if it is small, else the first one, the last one, and some within.
func leaves(h int) []uint64 {
	var l []uint64
	if h <= topSmall {
		for i := range uint64(1) << h {
			l = append(l, i)
		}
		return l
	}
	for _, bits := range []uint64{0, ones, 0x5a5ac3c396965a3c, 0xa5a53c3c6969a5c3, 0x7fffffff00000000, 0x8000000000000000} {
		l = append(l, bits>>(64-h))
	}
	return l
}

func atom(n int) api.Term    { return api.Term{Kind: api.AtomT, A: n} }
func left(a int) api.Term    { return api.Term{Kind: api.LeftT, A: a} }
func right(a int) api.Term   { return api.Term{Kind: api.RightT, A: a} }
func key(a int) api.Term     { return api.Term{Kind: api.KeyT, A: a} }
func wrap(a, b int) api.Term { return api.Term{Kind: api.WrapT, A: a, B: b} }

func place(i int) api.Value           { return api.Value{Sym: true, T: i} }
func block(x, y uint64) api.Value     { return api.Value{B: api.Block{x, y}} }
func sealed(k, b api.Block) api.Value { return api.Value{Sealed: true, S: seal.Wrap(k, b)} }

// some are terms of all kinds: some that are made of a7 on the way to nodes, labels and keys, some that are not, and, of
// places 3, 4 and 10, wrappings.
func some() []api.Term {
	return []api.Term{atom(7), left(0), atom(2), wrap(0, 2), wrap(0, 3), right(1), key(0), key(1), left(6), right(2), wrap(6, 8), key(8)}
}

// atoms are n of them, from a number on.
func atoms(n, from int) []api.Term {
	l := make([]api.Term, n)
	for i := range l {
		l[i] = atom(from + i)
	}
	return l
}

// master is a value, with terms with which it may be.
type master struct {
	v api.Value
	l []api.Term
}

// masters are by octets, by an atom, and by a part, alone and among others.
func masters() []master {
	return []master{
		{block(0, 0), nil},
		{block(0x0123456789abcdef, 0xfedcba9876543210), nil},
		{block(ones, ones), some()},
		{place(0), atoms(1, 5)},
		{place(0), some()},
		{place(2), some()},
		{place(11), some()},
	}
}

// mastersOf are all, if a height is small, else one by octets, and one by a term.
func mastersOf(h int) []master {
	if h <= topSmall {
		return masters()
	}
	return []master{masters()[2], masters()[4]}
}

// answer is all that Make tells.
type answer struct {
	s []api.Entry
	l []api.Term
	e api.Errno
}

func told(s []api.Entry, l []api.Term, e api.Errno) answer { return answer{s, l, e} }

func failed(e api.Errno) answer { return answer{e: e} }

func hold(t *testing.T, got, want answer, name string, args ...any) {
	t.Helper()
	if !slices.Equal(got.s, want.s) || got.e != want.e || !slices.Equal(got.l, want.l) {
		if len(got.l) > 50 || len(want.l) > 50 {
			t.Errorf("%s%v: %d entries, %d terms, %d; the chapter asks for %d, %d, %d", name, args, len(got.s), len(got.l), got.e, len(want.s), len(want.l), want.e)
			return
		}
		t.Errorf("%s%v = %v; the chapter asks for %v", name, args, got, want)
	}
}

// The next functions are the chapter's words written out apart.

// onWay is the node above leaf i of a depth: what the first bits of the leaf's node tell.
func onWay(h int, i uint64, depth int) uint64 { return (1<<h + i) >> (h - depth) }

// beside is the other node beside the one above leaf i of a depth: its last bit is the other one.
func beside(h int, i uint64, depth int) uint64 { return onWay(h, i, depth) ^ 1 }

// special tells whether a depth is: 0, one that the step divides, or the height.
func special(h, depth int) bool {
	step := 0
	for step*step < h {
		step++
	}
	return depth%step == 0 || depth == h
}

// useful tells whether a pair of two depths is.
func useful(h, from, to int) bool {
	if special(h, from) {
		return true
	}
	for d := from + 1; d < to; d++ {
		if special(h, d) {
			return false
		}
	}
	return true
}

func pairsOf(h, scheme int, i uint64) []api.Subset {
	l := []api.Subset{{I: 1}}
	for from := 0; from <= h; from++ {
		if scheme == 1 && from > 0 {
			l = append(l, api.Subset{I: onWay(h, i, from)})
		}
		for to := from + 1; to <= h; to++ {
			if scheme == 2 || scheme == 3 && useful(h, from, to) {
				l = append(l, api.Subset{I: onWay(h, i, from), J: beside(h, i, to)})
			}
		}
	}
	return l
}

// wayTo are the sides from a node to one that it is above: the bits of the one that the other one has not.
func wayTo(a, b uint64) string {
	return strconv.FormatUint(b, 2)[len(strconv.FormatUint(a, 2)):]
}

// wayOf are the parts by which one comes from the master value to what a leaf has of a pair: of J 0 its key, else its label.
func wayOf(scheme int, s api.Subset) string {
	switch {
	case s.J != 0:
		return wayTo(1, s.I) + "K" + wayTo(s.I, s.J)
	case scheme == 1:
		return wayTo(1, s.I) + "K"
	}
	return wayTo(1, s.I) + "KK"
}

// storeOf is what a leaf has, of a master value that may be, and is not sealed.
func storeOf(l []api.Term, h, scheme int, m api.Value, i uint64) answer {
	l = slices.Clone(l)
	where := make(map[api.Term]int)
	for k, t := range l {
		where[t] = k
	}
	var entries []api.Entry
	for _, s := range pairsOf(h, scheme, i) {
		v := m
		for _, c := range wayOf(scheme, s) {
			if !v.Sym {
				v.B, _ = mix.Part(v.B, strings.IndexRune("01K", c))
				continue
			}
			t := api.Term{Kind: map[rune]int{'0': 2, '1': 3, 'K': 4}[c], A: v.T}
			if _, is := where[t]; !is && len(l) == 65536 {
				return failed(6)
			} else if !is {
				where[t] = len(l)
				l = append(l, t)
			}
			v.T = where[t]
		}
		entries = append(entries, api.Entry{S: s, V: v})
	}
	return answer{entries, l, 0}
}

// textOf is the text of what one comes to from an atom.
func textOf(way string, n int) string {
	text := "a" + strconv.Itoa(n)
	for _, c := range way {
		text = map[rune]string{'0': "L(", '1': "R(", 'K': "K("}[c] + text + ")"
	}
	return text
}

// subsets are those that numbers tell, two by two: the one's leaves, but the other one's.
func subsets(nodes ...uint64) []api.Subset {
	var l []api.Subset
	for p := range slices.Chunk(nodes, 2) {
		l = append(l, api.Subset{I: p[0], J: p[1]})
	}
	return l
}

func TestTheWordsFollowTheTree(t *testing.T) { // what the tests below lean on
	for h := 1; h <= api.MaxHeight; h++ {
		for _, i := range leaves(h) {
			if onWay(h, i, 0) != 1 || onWay(h, i, h) != 1<<h+i || beside(h, i, h)>>1 != onWay(h, i, h-1) {
				t.Errorf("%d, %d", h, i)
			}
			for _, scheme := range schemes {
				for _, s := range pairsOf(h, scheme, i) {
					if may, e := layer.May(h, scheme, s); !may || e != api.OK {
						t.Errorf("%d, %d: %v may not be", h, scheme, s)
					}
				}
			}
		}
	}
	for _, x := range []struct{ got, want string }{
		{wayOf(1, api.Subset{I: 6}), "10K"}, {wayOf(2, api.Subset{I: 1}), "KK"}, {wayOf(3, api.Subset{I: 2, J: 11}), "0K11"},
		{textOf("10K", 5), "K(L(R(a5)))"},
	} {
		if x.got != x.want {
			t.Errorf("got %q, not %q", x.got, x.want)
		}
	}
	for _, m := range masters() {
		if e := value.Check(m.l, m.v); e != api.OK {
			t.Errorf("%v: %d", m, e)
		}
	}
}

func TestLeaf0OfHeight2ByDifferences(t *testing.T) { // the chapter's example
	l, e := store.Pairs(2, api.DiffS, 0)
	if !slices.Equal(l, []api.Subset{{I: 1}, {I: 1, J: 3}, {I: 1, J: 5}, {I: 2, J: 5}}) || e != api.OK {
		t.Errorf("got %v, %d", l, e)
	}
}

func holdPairs(t *testing.T, h, scheme int, i uint64, want []api.Subset, wantE api.Errno) {
	t.Helper()
	if l, e := store.Pairs(h, scheme, i); !slices.Equal(l, want) || e != wantE {
		t.Errorf("Pairs(%d, %d, %d) = %v, %d; the chapter asks for %v, %d", h, scheme, i, l, e, want, wantE)
	}
}

func TestPairsByHand(t *testing.T) { // P14.1
	for _, x := range []struct {
		h, scheme int
		i         uint64
		want      []api.Subset
	}{
		{1, api.WholeS, 0, subsets(1, 0, 2, 0)},
		{1, api.WholeS, 1, subsets(1, 0, 3, 0)},
		{1, api.DiffS, 0, subsets(1, 0, 1, 3)},
		{1, api.DiffS, 1, subsets(1, 0, 1, 2)},
		{1, api.LayerS, 0, subsets(1, 0, 1, 3)},
		{1, api.LayerS, 1, subsets(1, 0, 1, 2)},
		{2, api.WholeS, 2, subsets(1, 0, 3, 0, 6, 0)},
		{2, api.DiffS, 1, subsets(1, 0, 1, 3, 1, 4, 2, 4)},
		{2, api.DiffS, 3, subsets(1, 0, 1, 2, 1, 6, 3, 6)},
		{2, api.LayerS, 3, subsets(1, 0, 1, 2, 1, 6, 3, 6)},
		{3, api.WholeS, 5, subsets(1, 0, 3, 0, 6, 0, 13, 0)},
		{3, api.DiffS, 5, subsets(1, 0, 1, 2, 1, 7, 1, 12, 3, 7, 3, 12, 6, 12)},
		{3, api.LayerS, 5, subsets(1, 0, 1, 2, 1, 7, 1, 12, 3, 7, 6, 12)}, // not 3 but 12: depth 2 lies between
		{4, api.LayerS, 0, subsets(1, 0, 1, 3, 1, 5, 1, 9, 1, 17, 2, 5, 4, 9, 4, 17, 8, 17)},
		{4, api.LayerS, 15, subsets(1, 0, 1, 2, 1, 6, 1, 14, 1, 30, 3, 6, 7, 14, 7, 30, 15, 30)},
		{5, api.LayerS, 0, subsets(1, 0, 1, 3, 1, 5, 1, 9, 1, 17, 1, 33, 2, 5, 2, 9, 4, 9, 8, 17, 8, 33, 16, 33)}, // the step is 3
	} {
		holdPairs(t, x.h, x.scheme, x.i, x.want, api.OK)
	}
	for _, x := range []struct {
		scheme      int
		i           uint64
		first, last []api.Subset
	}{
		{api.WholeS, 0, subsets(1, 0, 2, 0, 4, 0), subsets(1<<31, 0, 1<<32, 0)},
		{api.WholeS, lastOf32, subsets(1, 0, 3, 0, 7, 0), subsets(1<<32-1, 0, 1<<33-1, 0)},
		{api.DiffS, 0, subsets(1, 0, 1, 3, 1, 5), subsets(1<<30, 1<<32+1, 1<<31, 1<<32+1)},
		{api.DiffS, lastOf32, subsets(1, 0, 1, 2, 1, 6), subsets(1<<31-1, 1<<33-2, 1<<32-1, 1<<33-2)},
		{api.DiffS, 1 << 31, subsets(1, 0, 1, 2, 1, 7), subsets(3<<29, 3<<31+1, 3<<30, 3<<31+1)},
		{api.LayerS, 0, subsets(1, 0, 1, 3, 1, 5), subsets(1<<30, 1<<31+1, 1<<30, 1<<32+1, 1<<31, 1<<32+1)},
		{api.LayerS, lastOf32, subsets(1, 0, 1, 2, 1, 6), subsets(1<<31-1, 1<<32-2, 1<<31-1, 1<<33-2, 1<<32-1, 1<<33-2)},
	} {
		l, e := store.Pairs(32, x.scheme, x.i)
		if e != api.OK || !slices.Equal(l[:3], x.first) || !slices.Equal(l[len(l)-len(x.last):], x.last) {
			t.Errorf("Pairs(32, %d, %d) = %v, %d", x.scheme, x.i, l, e)
		}
	}
}

func TestPairsOfEachLeaf(t *testing.T) { // P14.1
	for h := 1; h <= api.MaxHeight; h++ {
		for _, scheme := range schemes {
			for _, i := range leaves(h) {
				holdPairs(t, h, scheme, i, pairsOf(h, scheme, i), api.OK)
			}
		}
	}
}

func holdMany(t *testing.T, h, scheme, want int, wantE api.Errno) {
	t.Helper()
	if n, e := store.Many(h, scheme); n != want || e != wantE {
		t.Errorf("Many(%d, %d) = %d, %d; the chapter asks for %d, %d", h, scheme, n, e, want, wantE)
	}
}

func TestMany(t *testing.T) { // P14.1: by layers it was worked out apart
	byLayers := []int{2, 4, 6, 9, 12, 16, 19, 23, 28, 32, 37, 43, 47, 52, 58, 65, 70, 76, 83, 91, 96, 102, 109, 117, 126, 132, 139, 147, 156, 166, 172, 179}
	for h := 1; h <= api.MaxHeight; h++ {
		holdMany(t, h, api.WholeS, h+1, api.OK)
		holdMany(t, h, api.DiffS, h*(h+1)/2+1, api.OK)
		holdMany(t, h, api.LayerS, byLayers[h-1], api.OK)
		if n, e := layer.Pairs(h); n+1 != byLayers[h-1] || e != api.OK {
			t.Errorf("layer.Pairs(%d) = %d, %d", h, n, e)
		}
	}
	for _, x := range []struct{ h, scheme, n int }{
		{1, api.WholeS, 2}, {1, api.DiffS, 2}, {2, api.DiffS, 4}, {3, api.DiffS, 7}, {4, api.DiffS, 11}, {32, api.WholeS, 33}, {32, api.DiffS, 529},
	} {
		holdMany(t, x.h, x.scheme, x.n, api.OK)
	}
}

func TestALeafHasAsManyPairsAsMany(t *testing.T) { // P14.1
	for h := 1; h <= api.MaxHeight; h++ {
		for _, scheme := range schemes {
			for _, i := range leaves(h) {
				l, _ := store.Pairs(h, scheme, i)
				holdMany(t, h, scheme, len(l), api.OK)
			}
		}
	}
}

// refuse holds that no call takes a height, a scheme, and a leaf.
func refuse(t *testing.T, h, scheme int, i uint64) {
	t.Helper()
	holdPairs(t, h, scheme, i, nil, api.ErrArg)
	for _, m := range masters() {
		hold(t, told(store.Make(m.l, h, scheme, m.v, i)), failed(api.ErrArg), "Make", h, scheme, m.v, i)
	}
	for _, s := range [][]api.Entry{nil, {}, {{}}, {{S: api.Subset{I: 1}}}, {{S: api.Subset{I: 1}}, {S: api.Subset{I: 2}}}, {{S: api.Subset{I: 1}}, {S: api.Subset{I: 1, J: 3}}}} {
		if e := store.Check(some(), h, scheme, i, s); e != api.ErrArg {
			t.Errorf("Check(%d, %d, %d, %v) = %d", h, scheme, i, s, e)
		}
	}
}

func TestHeightsSchemesAndLeavesThereAreNot(t *testing.T) { // P14.1, P14.2, P14.3
	for _, h := range noHeights {
		for _, scheme := range slices.Concat(schemes, noSchemes) {
			holdMany(t, h, scheme, 0, api.ErrArg)
			for _, i := range []uint64{0, 1, 2, lastOf32, ones} {
				refuse(t, h, scheme, i)
			}
		}
	}
	for h := 1; h <= api.MaxHeight; h++ {
		for _, scheme := range noSchemes {
			holdMany(t, h, scheme, 0, api.ErrArg)
			refuse(t, h, scheme, 0)
			refuse(t, h, scheme, 1<<h-1)
			refuse(t, h, scheme, 1<<h)
		}
		for _, scheme := range schemes {
			for _, i := range noLeaves(h) {
				refuse(t, h, scheme, i)
			}
		}
	}
}

// holdTexts holds that a store's values are told by texts, one by one.
func holdTexts(t *testing.T, what string, got answer, want ...string) {
	t.Helper()
	if got.e != api.OK || len(got.s) != len(want) {
		t.Errorf("%s: %d entries, %d", what, len(got.s), got.e)
		return
	}
	for k, entry := range got.s {
		if text, e := term.Text(got.l, entry.V.T); text != want[k] || !entry.V.Sym || e != api.OK {
			t.Errorf("%s, %d: got %q, %v, not %q", what, k, text, entry, want[k])
		}
	}
}

func TestMakeByHand(t *testing.T) { // P14.2
	for _, x := range []struct {
		what      string
		h, scheme int
		i         uint64
		want      []string
	}{
		{"whole, the first one", 1, api.WholeS, 0, []string{"K(a5)", "K(L(a5))"}},
		{"whole, the last one", 2, api.WholeS, 3, []string{"K(a5)", "K(R(a5))", "K(R(R(a5)))"}},
		{"by differences, the first one", 1, api.DiffS, 0, []string{"K(K(a5))", "R(K(a5))"}},
		{"by useful ones, the last one", 1, api.LayerS, 1, []string{"K(K(a5))", "L(K(a5))"}},
		{"by differences, one within", 2, api.DiffS, 2, []string{"K(K(a5))", "L(K(a5))", "R(R(K(a5)))", "R(K(R(a5)))"}},
		{"by useful ones, one within", 3, api.LayerS, 5, []string{"K(K(a5))", "L(K(a5))", "R(R(K(a5)))", "L(L(R(K(a5))))", "R(K(R(a5)))", "L(K(L(R(a5))))"}},
	} {
		holdTexts(t, x.what, told(store.Make(atoms(1, 5), x.h, x.scheme, place(0), x.i)), x.want...)
	}
	hold(t, told(store.Make(atoms(2, 5), 2, api.DiffS, place(1), 0)), answer{
		s: []api.Entry{{S: api.Subset{I: 1}, V: place(3)}, {S: api.Subset{I: 1, J: 3}, V: place(4)}, {S: api.Subset{I: 1, J: 5}, V: place(6)}, {S: api.Subset{I: 2, J: 5}, V: place(9)}},
		l: []api.Term{atom(5), atom(6), key(1), key(2), right(2), left(2), right(5), left(1), key(7), right(8)},
	}, "Make", "by terms")
	hold(t, told(store.Make(some(), 2, api.DiffS, place(0), 3)), answer{
		s: []api.Entry{{S: api.Subset{I: 1}, V: place(12)}, {S: api.Subset{I: 1, J: 2}, V: place(8)}, {S: api.Subset{I: 1, J: 6}, V: place(14)}, {S: api.Subset{I: 3, J: 6}, V: place(17)}},
		l: append(some(), key(6), right(6), left(13), right(0), key(15), left(16)),
	}, "Make", "some are there")
}

func TestMakeByOctetsByHand(t *testing.T) { // P14.2: blocks were worked out of chapter 3 apart from all packages
	const x, y = 0x0123456789abcdef, 0xfedcba9876543210
	for _, z := range []struct {
		l         []api.Term
		h, scheme int
		i         uint64
		want      []api.Value
	}{
		{nil, 1, api.WholeS, 0, []api.Value{block(0xd1af8af1323268e, 0xc2dc9e91b640dc3d), block(0x76c25ccfb4abbf41, 0x17567fc2bf26d2ea)}},
		{some(), 1, api.WholeS, 1, []api.Value{block(0xd1af8af1323268e, 0xc2dc9e91b640dc3d), block(0x161269483309a627, 0xc2b9592f71e9a46a)}},
		{nil, 1, api.LayerS, 1, []api.Value{block(0xc168dca7cff93c70, 0x539308234a577f82), block(0xe4c2556c7d51655b, 0x9785897d2f0588d9)}},
		{some(), 2, api.DiffS, 0, []api.Value{block(0xc168dca7cff93c70, 0x539308234a577f82), block(0xb2ad3f9bacae70fa, 0xb59febd01a8b3d3c), block(0x31e32fef41639a58, 0x1a4e0592327fd513), block(0x166575cbb6ee8906, 0xc093786ce464455d)}},
		{nil, 2, api.DiffS, 3, []api.Value{block(0xc168dca7cff93c70, 0x539308234a577f82), block(0xe4c2556c7d51655b, 0x9785897d2f0588d9), block(0x446b8ca90bd08f67, 0xe126dc829bb26004), block(0x36d82486ba8f075, 0x7de747a20095e81a)}},
	} {
		want := answer{l: z.l}
		for k, s := range pairsOf(z.h, z.scheme, z.i) {
			want.s = append(want.s, api.Entry{S: s, V: z.want[k]})
		}
		hold(t, told(store.Make(z.l, z.h, z.scheme, block(x, y), z.i)), want, "Make", z.h, z.scheme, z.i)
	}
	for _, z := range []struct {
		scheme  int
		m, last api.Value
		i       uint64
	}{
		{api.DiffS, block(0, 0), block(0x897744d93303bd86, 0xa455aa504400dc52), 0},
		{api.LayerS, block(ones, ones), block(0x4796998ba33ae5dc, 0x10e55dae8d37197), lastOf32},
		{api.WholeS, block(ones, ones), block(0xcd9fcdb995060ab8, 0x7f9c551027068e51), lastOf32},
	} {
		s, l, e := store.Make(nil, 32, z.scheme, z.m, z.i)
		if e != api.OK || len(l) != 0 || s[len(s)-1].V != z.last {
			t.Errorf("Make(32, %d, %d): %v, %d", z.scheme, z.i, s[len(s)-1], e)
		}
	}
}

func TestMakeForEachLeaf(t *testing.T) { // P14.2
	for h := 1; h <= api.MaxHeight; h++ {
		for _, m := range mastersOf(h) {
			for _, scheme := range schemes {
				for k, i := range leaves(h) {
					if h <= topSmall || k == h%6 || h == api.MaxHeight { // of each kind, one height after the other
						hold(t, told(store.Make(m.l, h, scheme, m.v, i)), storeOf(m.l, h, scheme, m.v, i), "Make", h, scheme, m.v, i)
					}
				}
			}
		}
	}
}

// oneByOne are the entries that layer 13's calls make, one after the other.
func oneByOne(l []api.Term, h, scheme int, m api.Value, i uint64) answer {
	var entries []api.Entry
	for _, s := range pairsOf(h, scheme, i) {
		var v api.Value
		var e api.Errno
		if s.J == 0 {
			v, l, e = label.Key(l, h, scheme, m, s)
		} else {
			v, l, e = label.Label(l, h, m, s)
		}
		if e != api.OK {
			return failed(e)
		}
		entries = append(entries, api.Entry{S: s, V: v})
	}
	return answer{entries, l, api.OK}
}

func TestMakeIsKeysAndLabelsOneByOne(t *testing.T) { // P14.2: of lists that are full, too
	for _, h := range []int{1, 2, 3, 4, 7, 32} {
		for _, m := range mastersOf(h) {
			for _, scheme := range schemes {
				hold(t, told(store.Make(m.l, h, scheme, m.v, 1)), oneByOne(m.l, h, scheme, m.v, 1), "Make", h, scheme, m.v, 1)
			}
		}
	}
	for room := range 8 {
		l := append(atoms(api.MaxTerms-room-3, 0), left(0))
		l = append(l, key(len(l)-1), key(0))
		for _, scheme := range schemes {
			hold(t, told(store.Make(l, 2, scheme, place(0), 1)), oneByOne(l, 2, scheme, place(0), 1), "Make", room, scheme)
		}
	}
}

func TestALeafsStoreIsMadeOnce(t *testing.T) { // P14.2: made again, or for another leaf, what is there is not made again
	for _, h := range []int{1, 3, 5, 32} {
		for _, scheme := range schemes {
			l := some()
			for _, i := range leaves(h) {
				want := storeOf(l, h, scheme, place(0), i)
				first := told(store.Make(l, h, scheme, place(0), i))
				hold(t, first, want, "Make", h, scheme, i)
				hold(t, told(store.Make(first.l, h, scheme, place(0), i)), first, "Make again", h, scheme, i)
				l = first.l
			}
			if e := term.Check(l); e != api.OK {
				t.Errorf("%d, %d: terms may not be, %d", h, scheme, e)
			}
		}
	}
}

func TestTextsOfEveryHeight(t *testing.T) { // P14.2
	for h := 1; h <= api.MaxHeight; h++ {
		for _, scheme := range schemes {
			i := uint64(0x5a5ac3c396965a3c) >> (64 - h)
			var want []string
			for _, s := range pairsOf(h, scheme, i) {
				want = append(want, textOf(wayOf(scheme, s), 7))
			}
			holdTexts(t, strconv.Itoa(h), told(store.Make(some(), h, scheme, place(0), i)), want...)
		}
	}
}

func TestStoresByTermsStandForThoseByOctets(t *testing.T) { // P14.2, and R5: one rule for both
	b := api.Block{0x0123456789abcdef, 0xfedcba9876543210}
	drawn := make([]api.Block, 8)
	drawn[7] = b
	for h := 1; h <= 3; h++ {
		for _, scheme := range schemes {
			for _, i := range leaves(h) {
				bySym := told(store.Make(some(), h, scheme, place(0), i))
				for k := range bySym.s {
					bySym.s[k].V, _ = value.Eval(bySym.l, bySym.s[k].V.T, drawn)
				}
				hold(t, told(store.Make(nil, h, scheme, api.Value{B: b}, i)), answer{s: bySym.s}, "Make", h, scheme, i)
			}
		}
	}
}

func TestTermsThatMakeAListFull(t *testing.T) { // P14.2: where there is no room for one all is zero
	for _, x := range []struct {
		h, scheme int
		i         uint64
	}{{1, api.WholeS, 0}, {1, api.DiffS, 1}, {2, api.DiffS, 0}, {3, api.LayerS, 5}, {32, api.WholeS, lastOf32}, {32, api.LayerS, 0}, {32, api.DiffS, 1 << 31}} {
		need := len(storeOf(atoms(1, 0), x.h, x.scheme, place(0), x.i).l) - 1
		l := atoms(api.MaxTerms-need, 0)
		full := told(store.Make(l, x.h, x.scheme, place(9), x.i))
		hold(t, full, storeOf(l, x.h, x.scheme, place(9), x.i), "Make", x)
		if len(full.l) != api.MaxTerms {
			t.Errorf("%v: %d terms", x, len(full.l))
		}
		hold(t, told(store.Make(full.l, x.h, x.scheme, place(9), x.i)), full, "Make again", x)
		hold(t, told(store.Make(full.l, x.h, x.scheme, place(9), x.i^1)), failed(api.ErrFull), "Make for another leaf", x)
		for _, less := range []int{1, 2, need} {
			hold(t, told(store.Make(atoms(api.MaxTerms-need+less, 0), x.h, x.scheme, place(9), x.i)), failed(api.ErrFull), "Make", x, less)
		}
		if e := store.Check(full.l, x.h, x.scheme, x.i, full.s); e != api.OK {
			t.Errorf("Check(%v) = %d", x, e)
		}
		hold(t, told(store.Make(full.l, x.h, x.scheme, block(1, 2), x.i)), storeOf(full.l, x.h, x.scheme, block(1, 2), x.i), "by octets", x)
	}
}

func TestErrArgIsToldAheadOfErrFull(t *testing.T) { // P14.2
	full := append(atoms(api.MaxTerms-1, 0), wrap(0, 1))
	hold(t, told(store.Make(full, 3, api.DiffS, place(0), 7)), failed(api.ErrFull), "Make")
	hold(t, told(store.Make(full, 3, api.DiffS, place(0), 8)), failed(api.ErrArg), "Make", "no leaf")
	hold(t, told(store.Make(full, 3, 4, place(0), 7)), failed(api.ErrArg), "Make", "no scheme")
	hold(t, told(store.Make(full, 33, api.DiffS, place(0), 7)), failed(api.ErrArg), "Make", "no height")
	hold(t, told(store.Make(full, 3, api.DiffS, place(api.MaxTerms-1), 7)), failed(api.ErrArg), "Make", "sealed")
	hold(t, told(store.Make(full, 3, api.DiffS, place(api.MaxTerms), 7)), failed(api.ErrArg), "Make", "no place")
	hold(t, told(store.Make(append(full, atom(70000)), 3, api.DiffS, place(0), 7)), failed(api.ErrArg), "Make", "one too many")
}

// refuseMaster holds that Make does not take terms and a value.
func refuseMaster(t *testing.T, what string, l []api.Term, m api.Value) {
	t.Helper()
	for _, h := range []int{0, 1, 2, 32, 33} {
		for scheme := range 5 {
			for _, i := range []uint64{0, 1, 2, 4, lastOf32} {
				hold(t, told(store.Make(l, h, scheme, m, i)), failed(api.ErrArg), "Make", what, h, scheme, i)
			}
		}
	}
}

// noTerms are lists that may not be: of each what is wrong.
func noTerms() map[string][]api.Term {
	return map[string][]api.Term{
		"no kind":                  {atom(0), {}},
		"kind 6":                   {atom(0), {Kind: 6}},
		"no such atom":             {atom(0), atom(-1)},
		"beyond MaxAtom":           {atom(0), atom(api.MaxAtom + 1)},
		"an atom with a B":         {atom(0), {Kind: api.AtomT, A: 2, B: 1}},
		"of itself":                {atom(0), left(1)},
		"of one behind it":         {atom(0), key(2), atom(1)},
		"of none":                  {atom(0), key(-1)},
		"a part with a B":          {atom(0), atom(1), {Kind: api.RightT, A: 0, B: 1}},
		"a wrapping of itself":     {atom(0), wrap(0, 1)},
		"one twice":                {atom(0), left(0), key(0), right(0), left(0)},
		"only the last one is bad": append(atoms(300, 0), left(300)),
		"one too many":             atoms(api.MaxTerms+1, 0),
	}
}

// noValues are values by octets, or terms' at place 0, that may not be: of each what is wrong.
func noValues() map[string]api.Value {
	return map[string]api.Value{
		"a term, and a block":         {Sym: true, B: api.Block{1}},
		"a term, and a block's end":   {Sym: true, B: api.Block{0, 1}},
		"a term, and what was sealed": {Sym: true, S: api.Sealed{C: api.Block{1}}},
		"a term, and a tag":           {Sym: true, S: api.Sealed{T: api.Block{0, 1}}},
		"a term that tells Sealed":    {Sym: true, Sealed: true},
		"a block, and a place":        {B: api.Block{1, 2}, T: 1},
		"a block, and one below 0":    {B: api.Block{1, 2}, T: -1},
		"a block, and a sealed one":   {B: api.Block{1, 2}, S: api.Sealed{C: api.Block{0, 1}}},
		"a block, and a tag":          {B: api.Block{1, 2}, S: api.Sealed{T: api.Block{1}}},
		"sealed, and a block":         {Sealed: true, B: api.Block{1, 2}},
		"sealed, and a place":         {Sealed: true, T: 1},
		"sealed, all zero":            {Sealed: true},
		"sealed":                      sealed(api.Block{1, 2}, api.Block{3, 4}),
		"sealed, a tag alone":         {Sealed: true, S: api.Sealed{T: api.Block{1}}},
	}
}

// noPlaces are where a list has no term.
func noPlaces(l []api.Term) []int {
	return []int{math.MinInt, -1 << 32, -1, len(l), len(l) + 1, api.MaxTerms, 1 << 32, math.MaxInt}
}

func TestMakeRefusesTerms(t *testing.T) { // P14.2: by octets too
	for what, l := range noTerms() {
		refuseMaster(t, what, l, place(0))
		refuseMaster(t, what+", by octets", l, block(1, 2))
	}
}

func TestMakeRefusesMasters(t *testing.T) { // P14.2
	for _, l := range [][]api.Term{nil, {}, some()} {
		for _, i := range noPlaces(l) {
			refuseMaster(t, "no such place", l, place(i))
		}
		for what, m := range noValues() {
			refuseMaster(t, what, l, m)
		}
	}
	for _, i := range []int{3, 4, 10} {
		refuseMaster(t, "a wrapping", some(), place(i))
	}
	// Among terms there may be parts of a wrapping; these are none.
	parts := []api.Term{atom(0), wrap(0, 0), left(1), key(2)}
	refuseMaster(t, "a wrapping with parts", parts, place(1))
	hold(t, told(store.Make(parts, 2, api.DiffS, place(2), 0)), storeOf(parts, 2, api.DiffS, place(2), 0), "Make", "of a part of a wrapping")
}

func holdCheck(t *testing.T, l []api.Term, h, scheme int, i uint64, s []api.Entry, want api.Errno, what ...any) {
	t.Helper()
	if e := store.Check(l, h, scheme, i, s); e != want {
		t.Errorf("Check(%d, %d, %d, %d entries) of %v = %d; the chapter asks for %d", h, scheme, i, len(s), what, e, want)
	}
}

func TestCheckTakesWhatIsMade(t *testing.T) { // P14.3
	for h := 1; h <= api.MaxHeight; h++ {
		for _, m := range mastersOf(h) {
			for _, scheme := range schemes {
				i := leaves(h)[h%2]
				made := told(store.Make(m.l, h, scheme, m.v, i))
				holdCheck(t, made.l, h, scheme, i, made.s, api.OK, "what is made")
			}
		}
	}
}

// cases are stores of all kinds, by terms and by octets, each with its terms.
func cases(do func(h, scheme int, i uint64, made answer)) {
	for _, h := range []int{1, 2, 3, 5, 12} {
		for _, scheme := range schemes {
			for _, i := range []uint64{0, 1, 1<<h - 1} {
				do(h, scheme, i, told(store.Make(some(), h, scheme, place(0), i)))
				do(h, scheme, i, told(store.Make(some(), h, scheme, block(1, 2), i)))
				do(h, scheme, i, told(store.Make(nil, h, scheme, block(3, 4), i)))
			}
		}
	}
}

// but is a store with another entry at a place.
func but(s []api.Entry, k int, entry api.Entry) []api.Entry {
	s = slices.Clone(s)
	s[k] = entry
	return s
}

func TestCheckTakesAnyValuesThatMayBe(t *testing.T) { // P14.3: it does not ask whose they are
	cases(func(h, scheme int, i uint64, made answer) {
		others := []api.Value{block(0, 0), block(ones, 5), {}}
		if made.s[0].V.Sym {
			others = []api.Value{place(0), place(1), place(2), place(11), place(len(made.l) - 1)}
		}
		all := slices.Clone(made.s)
		for k, entry := range made.s {
			for _, v := range others {
				holdCheck(t, made.l, h, scheme, i, but(made.s, k, api.Entry{S: entry.S, V: v}), api.OK, k, v)
			}
			all[k].V = others[k%len(others)]
		}
		holdCheck(t, made.l, h, scheme, i, all, api.OK, "all others")
	})
}

func TestCheckRefusesAnEntryTooFewOrTooMany(t *testing.T) { // P14.3
	cases(func(h, scheme int, i uint64, made answer) {
		for k := range made.s {
			holdCheck(t, made.l, h, scheme, i, slices.Delete(slices.Clone(made.s), k, k+1), api.ErrArg, "too few", k)
			holdCheck(t, made.l, h, scheme, i, made.s[:k], api.ErrArg, "the first ones alone", k)
			holdCheck(t, made.l, h, scheme, i, made.s[k+1:], api.ErrArg, "the last ones alone", k)
			holdCheck(t, made.l, h, scheme, i, slices.Insert(slices.Clone(made.s), k, made.s[k]), api.ErrArg, "one twice", k)
		}
		for _, entry := range []api.Entry{{}, made.s[0], made.s[len(made.s)-1]} {
			holdCheck(t, made.l, h, scheme, i, append(slices.Clone(made.s), entry), api.ErrArg, "too many", entry)
		}
		holdCheck(t, made.l, h, scheme, i, nil, api.ErrArg, "none")
		holdCheck(t, made.l, h, scheme, i, slices.Concat(made.s, made.s), api.ErrArg, "all twice")
	})
}

func TestCheckRefusesOtherPairs(t *testing.T) { // P14.3
	cases(func(h, scheme int, i uint64, made answer) {
		for k, entry := range made.s {
			for n := range k {
				s := slices.Clone(made.s)
				s[k], s[n] = s[n], s[k]
				holdCheck(t, made.l, h, scheme, i, s, api.ErrArg, "exchanged", n, k)
				s = slices.Clone(made.s)
				s[k].S, s[n].S = s[n].S, s[k].S
				holdCheck(t, made.l, h, scheme, i, s, api.ErrArg, "pairs exchanged", n, k)
			}
			for _, n := range []uint64{0, 1, 2, 3, 1 << h, 1<<h + i, 1 << (h + 1), ones} {
				for _, s := range []api.Subset{{I: n, J: entry.S.J}, {I: entry.S.I, J: n}} {
					if s != entry.S {
						holdCheck(t, made.l, h, scheme, i, but(made.s, k, api.Entry{S: s, V: entry.V}), api.ErrArg, k, s)
					}
				}
			}
		}
	})
}

func TestCheckTellsWhoseItIs(t *testing.T) { // P14.3: a store of another leaf, scheme or height is one, if all pairs are the same
	for h := 1; h <= 3; h++ {
		for _, scheme := range schemes {
			for _, i := range leaves(h) {
				made := told(store.Make(nil, h, scheme, block(1, 2), i))
				for otherH := 1; otherH <= 4; otherH++ {
					for _, other := range schemes {
						for _, k := range leaves(otherH) {
							want := api.ErrArg
							if slices.Equal(pairsOf(h, scheme, i), pairsOf(otherH, other, k)) {
								want = api.OK
							}
							holdCheck(t, nil, otherH, other, k, made.s, want, "those of", h, scheme, i)
						}
					}
				}
			}
		}
	}
}

func TestCheckRefusesValues(t *testing.T) { // P14.3
	cases(func(h, scheme int, i uint64, made answer) {
		bad := noValues()
		for _, n := range noPlaces(made.l) {
			bad["no place "+strconv.Itoa(n)] = place(n)
		}
		if len(made.l) > 0 {
			for _, n := range []int{3, 4, 10} {
				bad["a wrapping at "+strconv.Itoa(n)] = place(n)
			}
		}
		if made.s[0].V.Sym {
			bad["a block among terms"] = block(1, 2)
			bad["zeros among terms"] = api.Value{}
		} else {
			bad["a term among blocks"] = place(0)
		}
		for k, entry := range made.s {
			for what, v := range bad {
				holdCheck(t, made.l, h, scheme, i, but(made.s, k, api.Entry{S: entry.S, V: v}), api.ErrArg, what, k)
			}
		}
		for what, v := range bad {
			all := slices.Clone(made.s)
			for k := range all {
				all[k].V = v
			}
			if strings.HasSuffix(what, "among terms") || what == "a term among blocks" && len(made.l) > 0 { // all are, and so they may be
				holdCheck(t, made.l, h, scheme, i, all, api.OK, what, "all")
			} else {
				holdCheck(t, made.l, h, scheme, i, all, api.ErrArg, what, "all")
			}
		}
	})
}

func TestCheckRefusesTerms(t *testing.T) { // P14.3: by octets too, and whatever else there is
	for what, l := range noTerms() {
		for h := 1; h <= 3; h++ {
			for _, scheme := range schemes {
				for _, v := range []api.Value{place(0), block(1, 2)} {
					var s []api.Entry
					for _, pair := range pairsOf(h, scheme, 1) {
						s = append(s, api.Entry{S: pair, V: v})
					}
					holdCheck(t, atoms(1, 0), h, scheme, 1, s, api.OK, v)
					holdCheck(t, l, h, scheme, 1, s, api.ErrArg, what, v)
				}
			}
		}
	}
	made := told(store.Make(some(), 3, api.DiffS, place(0), 1))
	holdCheck(t, made.l[:len(made.l)-1], 3, api.DiffS, 1, made.s, api.ErrArg, "the last term is not there")
	holdCheck(t, nil, 3, api.DiffS, 1, made.s, api.ErrArg, "no term is there")
}

func TestSame(t *testing.T) { // P14.3: of any two, which need be no stores
	cases(func(h, scheme int, i uint64, made answer) {
		again := told(store.Make(slices.Clone(made.l), h, scheme, made.s[0].V, i))
		if !store.Same(made.s, slices.Clone(made.s)) || !store.Same(made.s, made.s) || store.Same(made.s, again.s) {
			t.Errorf("%d, %d, %d: of itself, or of that of another master", h, scheme, i)
		}
		for k, entry := range made.s {
			for _, other := range []api.Entry{
				{S: api.Subset{I: entry.S.I + 1, J: entry.S.J}, V: entry.V},
				{S: api.Subset{I: entry.S.I, J: entry.S.J ^ 1<<63}, V: entry.V},
				{S: entry.S, V: api.Value{Sym: !entry.V.Sym, B: entry.V.B, T: entry.V.T}},
				{S: entry.S, V: api.Value{Sym: entry.V.Sym, Sealed: true, B: entry.V.B, T: entry.V.T}},
				{S: entry.S, V: api.Value{Sym: entry.V.Sym, B: entry.V.B, T: entry.V.T + 1}},
				{S: entry.S, V: api.Value{Sym: entry.V.Sym, B: api.Block{entry.V.B[0] + 1, entry.V.B[1]}, T: entry.V.T}},
				{S: entry.S, V: api.Value{Sym: entry.V.Sym, B: api.Block{entry.V.B[0], entry.V.B[1] + 1}, T: entry.V.T}},
				{S: entry.S, V: api.Value{Sym: entry.V.Sym, B: entry.V.B, T: entry.V.T, S: api.Sealed{C: api.Block{0, 1}}}},
				{S: entry.S, V: api.Value{Sym: entry.V.Sym, B: entry.V.B, T: entry.V.T, S: api.Sealed{T: api.Block{1}}}},
			} {
				s := but(made.s, k, other)
				if store.Same(made.s, s) || store.Same(s, made.s) || !store.Same(s, slices.Clone(s)) {
					t.Errorf("%d, %d, %d: %v, and %v at %d", h, scheme, i, entry, other, k)
				}
			}
			if store.Same(made.s, made.s[:k]) || store.Same(made.s[:k], made.s) || store.Same(made.s[k+1:], made.s) {
				t.Errorf("%d, %d, %d: %d alone", h, scheme, i, k)
			}
		}
	})
	nothing := []api.Entry{{}}
	if !store.Same(nil, nil) || !store.Same(nil, []api.Entry{}) || !store.Same([]api.Entry{}, nil) || !store.Same(nothing, []api.Entry{{}}) {
		t.Errorf("of none")
	}
	if store.Same(nil, nothing) || store.Same(nothing, nil) || store.Same(nothing, []api.Entry{{}, {}}) {
		t.Errorf("of none, and of one that is zero")
	}
}

func TestNoLeafIsInASubsetJOfItsPairs(t *testing.T) { // P14.4
	for h := 1; h <= api.MaxHeight; h++ {
		for _, scheme := range schemes {
			for _, i := range leaves(h) {
				l, _ := store.Pairs(h, scheme, i)
				for _, s := range l {
					if is, e := sub.Has(h, s, i); !is || e != api.OK {
						t.Errorf("%d, %d: %d is not in %v, %d", h, scheme, i, s, e)
					}
					if s.J == 0 {
						continue
					}
					if is, e := sub.Has(h, api.Subset{I: s.J}, i); is || e != api.OK {
						t.Errorf("%d, %d: %d is below J of %v, %d", h, scheme, i, s, e)
					}
				}
			}
		}
	}
}

// isAbove tells whether a node is above a leaf: the leaf's node has all its bits, and more behind them.
func isAbove(h int, n, i uint64) bool {
	return strings.HasPrefix(strconv.FormatUint(1<<h+i, 2), strconv.FormatUint(n, 2))
}

func TestTwoLeavesHaveTheSamePairsButThoseBesideOrAboveOneAlone(t *testing.T) { // P14.4
	for h := 1; h <= api.MaxHeight; h++ {
		for _, scheme := range schemes {
			for _, a := range leaves(h) {
				mine, _ := store.Pairs(h, scheme, a)
				for _, b := range leaves(h) {
					other, _ := store.Pairs(h, scheme, b)
					for _, s := range mine {
						above := isAbove(h, s.I, b)
						besideBoth := s.J == 0 || isAbove(h, s.J/2, b) && !isAbove(h, s.J, b)
						if slices.Contains(other, s) != (above && besideBoth) {
							t.Errorf("%d, %d: of %d %v, and of %d", h, scheme, a, s, b)
						}
					}
				}
			}
		}
	}
}

func TestNoTwoEntriesAreTheSame(t *testing.T) { // P14.2: by terms, of one leaf
	for _, h := range []int{1, 2, 3, 4, 9, 32} {
		for _, scheme := range schemes {
			for _, i := range leaves(h)[:2] {
				made := told(store.Make(some(), h, scheme, place(0), i))
				seen := make(map[int]api.Subset)
				for _, entry := range made.s {
					if s, is := seen[entry.V.T]; is {
						t.Errorf("%d, %d, %d: %v and %v", h, scheme, i, s, entry.S)
					}
					seen[entry.V.T] = entry.S
				}
			}
		}
	}
}

// withRoom is a list with room behind it, and terms in that, which a careless append would write into.
func withRoom(l []api.Term) []api.Term {
	return append(slices.Clone(l), atoms(80, 900)...)[:len(l)]
}

func TestTermsHandedInStayAndWhatIsMadeIsNew(t *testing.T) { // R2
	for _, m := range []api.Value{block(1, 2), place(0), place(9)} {
		for _, scheme := range schemes {
			want := storeOf(some(), 4, scheme, m, 6)
			l := withRoom(some())
			room := l[:cap(l)]
			kept := slices.Clone(room)
			first := told(store.Make(l, 4, scheme, m, 6))
			second := told(store.Make(l, 4, scheme, m, 6))
			third := told(store.Make(first.l, 4, scheme, m, 6)) // nothing is to be made
			if !slices.Equal(room, kept) {
				t.Fatalf("%v, %d: terms, or what is behind them, are now %v", m, scheme, room)
			}
			clear(room) // whoever handed them in writes into them
			hold(t, first, want, "first", m, scheme)
			clear(second.s[:cap(second.s)]) // and so does whoever was told them
			clear(second.l[:cap(second.l)])
			hold(t, first, want, "first", m, scheme)
			clear(first.l[:cap(first.l)])
			clear(first.s[:cap(first.s)])
			hold(t, third, want, "third", m, scheme)
			hold(t, told(store.Make(some(), 4, scheme, m, 6)), want, "again", m, scheme)
		}
	}
}

func TestPairsAreNew(t *testing.T) { // R2
	for _, scheme := range schemes {
		first, _ := store.Pairs(5, scheme, 9)
		second, _ := store.Pairs(5, scheme, 9)
		clear(first[:cap(first)])
		if !slices.Equal(second, pairsOf(5, scheme, 9)) {
			t.Errorf("%d: %v", scheme, second)
		}
		holdPairs(t, 5, scheme, 9, pairsOf(5, scheme, 9), api.OK)
	}
}

func TestStoresHandedInStay(t *testing.T) { // R2
	cases(func(h, scheme int, i uint64, made answer) {
		s, l := slices.Clone(made.s), withRoom(made.l)
		kept := slices.Clone(l[:cap(l)])
		store.Check(l, h, scheme, i, s)
		store.Check(l, h, scheme, i^1, s)
		store.Same(s, made.s)
		store.Same(made.s[1:], s)
		if !slices.Equal(s, made.s) || !slices.Equal(l[:cap(l)], kept) {
			t.Errorf("%d, %d, %d: entries, or terms, are others now", h, scheme, i)
		}
	})
}
