package label_test

import (
	"math"
	"slices"
	"strconv"
	"strings"
	"testing"

	"medlar/api"
	"medlar/label"
	"medlar/mix"
	"medlar/seal"
	"medlar/term"
	"medlar/value"
)

const ones = math.MaxUint64

// topSmall is up to which height each node, and each subset, is tried.
const topSmall = 4

var schemes = []int{api.WholeS, api.DiffS, api.LayerS}

var noSchemes = []int{math.MinInt, -1, 0, 4, 5, 1<<32 + 1, 1<<32 + 3, math.MaxInt}

var noHeights = []int{math.MinInt, -64, -1, 0, api.MaxHeight + 1, 63, 64, math.MaxInt}

var noSides = []int{math.MinInt, -1<<32 + 1, -2, -1, 2, 3, 4, 256, 257, 1 << 32, 1<<32 + 1, math.MaxInt}

func atom(n int) api.Term    { return api.Term{Kind: api.AtomT, A: n} }
func left(a int) api.Term    { return api.Term{Kind: api.LeftT, A: a} }
func right(a int) api.Term   { return api.Term{Kind: api.RightT, A: a} }
func key(a int) api.Term     { return api.Term{Kind: api.KeyT, A: a} }
func wrap(a, b int) api.Term { return api.Term{Kind: api.WrapT, A: a, B: b} }

func place(i int) api.Value           { return api.Value{Sym: true, T: i} }
func block(x, y uint64) api.Value     { return api.Value{B: api.Block{x, y}} }
func sealed(k, b api.Block) api.Value { return api.Value{Sealed: true, S: seal.Wrap(k, b)} }

// some are terms of all kinds: some that are made of a7 on the way to nodes, labels and keys, some that are not, and, of
// places 3, 4 and 10, wrappings.
func some() []api.Term {
	return []api.Term{atom(7), left(0), atom(2), wrap(0, 2), wrap(0, 3), right(1), key(0), key(1), left(6), right(2), wrap(6, 8), key(8)}
}

// atoms are n of them, from a number on.
func atoms(n, from int) []api.Term {
	l := make([]api.Term, n)
	for i := range l {
		l[i] = atom(from + i)
	}
	return l
}

// masters are values, with terms with which they may be: by octets, by an atom, and by a part, alone and among others.
func masters() []answer {
	return []answer{
		{block(0, 0), nil, 0},
		{block(0x0123456789abcdef, 0xfedcba9876543210), nil, 0},
		{block(ones, ones), some(), 0},
		{place(0), atoms(1, 5), 0},
		{place(0), some(), 0},
		{place(2), some(), 0},
		{place(11), some(), 0},
	}
}

// answer is all that a call tells.
type answer struct {
	v api.Value
	l []api.Term
	e api.Errno
}

func told(v api.Value, l []api.Term, e api.Errno) answer { return answer{v, l, e} }

func failed(e api.Errno) answer { return answer{e: e} }

func hold(t *testing.T, got, want answer, name string, args ...any) {
	t.Helper()
	if got.v != want.v || got.e != want.e || !slices.Equal(got.l, want.l) {
		if len(got.l) > 50 || len(want.l) > 50 {
			t.Errorf("%s%v = %v, %d, %d terms; the chapter asks for %v, %d, %d terms", name, args, got.v, got.e, len(got.l), want.v, want.e, len(want.l))
			return
		}
		t.Errorf("%s%v = %v; the chapter asks for %v", name, args, got, want)
	}
}

// The next functions are the chapter's words written out apart: parts are told by a text of 0, 1, and K.

// wayTo are the sides from a node to one that it is above: the bits of the one that the other one has not.
func wayTo(a, b uint64) string {
	return strconv.FormatUint(b, 2)[len(strconv.FormatUint(a, 2)):]
}

func labelWay(s api.Subset) string {
	if s.J == 0 {
		return wayTo(1, s.I) + "K"
	}
	return wayTo(1, s.I) + "K" + wayTo(s.I, s.J)
}

func keyWay(scheme int, s api.Subset) string {
	if scheme == 1 {
		return labelWay(s)
	}
	return labelWay(s) + "K"
}

// walked is where one comes to from a value that may be, and is not sealed.
func walked(l []api.Term, v api.Value, way string) answer {
	l = slices.Clone(l)
	for _, c := range way {
		if !v.Sym {
			v.B, _ = mix.Part(v.B, strings.IndexRune("01K", c))
			continue
		}
		t := api.Term{Kind: map[rune]int{'0': 2, '1': 3, 'K': 4}[c], A: v.T}
		i := slices.Index(l, t)
		if i < 0 && len(l) == 65536 {
			return failed(6)
		}
		if i < 0 {
			i, l = len(l), append(l, t)
		}
		v.T = i
	}
	return answer{v, l, 0}
}

// textOf is the text of what one comes to from an atom.
func textOf(way string, n int) string {
	text := "a" + strconv.Itoa(n)
	for _, c := range way {
		text = map[rune]string{'0': "L(", '1': "R(", 'K': "K("}[c] + text + ")"
	}
	return text
}

func depth(n uint64) int { return len(strconv.FormatUint(n, 2)) - 1 }

func isSubset(h int, s api.Subset) bool {
	end := uint64(1) << (h + 1)
	if s.I < 1 || s.I >= end || s.J >= end {
		return false
	}
	return s.J == 0 || s.J > s.I && strings.HasPrefix(strconv.FormatUint(s.J, 2), strconv.FormatUint(s.I, 2))
}

// may is layer 12's word, of a subset.
func may(h, scheme int, s api.Subset) bool {
	switch scheme {
	case 1:
		return s.J == 0
	case 2:
		return s.J != 0 || s.I == 1
	}
	if s.J == 0 {
		return s.I == 1
	}
	step := 0
	for step*step < h {
		step++
	}
	between := false
	for d := depth(s.I) + 1; d < depth(s.J); d++ {
		between = between || d%step == 0
	}
	return depth(s.I)%step == 0 || !between
}

// subsets are all those of a height.
func subsets(h int) []api.Subset {
	var l []api.Subset
	for i := range uint64(1) << (h + 1) {
		for j := range uint64(1) << (h + 1) {
			if s := (api.Subset{I: i, J: j}); isSubset(h, s) {
				l = append(l, s)
			}
		}
	}
	return l
}

// far are subsets of a height: of each depth of I, without a J, and with each deeper one; at the left, at the right, and within.
func far(h int) []api.Subset {
	var l []api.Subset
	for from := 0; from <= h; from++ {
		for _, bits := range []uint64{0, ones, 0x5a5ac3c396965a3c} {
			i := uint64(1)<<from + bits>>(64-from)
			l = append(l, api.Subset{I: i})
			for to := from + 1; to <= h; to++ {
				l = append(l, api.Subset{I: i, J: uint64(1)<<to + bits>>(64-to)})
			}
		}
	}
	return l
}

// eachWay hands in each list of sides of up to n, and it as a text.
func eachWay(n int, do func(sides []int, way string)) {
	for many := range n + 1 {
		for bits := range 1 << many {
			sides := make([]int, many)
			way := ""
			for k := range sides {
				sides[k] = bits >> k & 1
				way += strconv.Itoa(sides[k])
			}
			do(sides, way)
		}
	}
}

// longWays are as many sides as there may be: all left, all right, and of each kind.
func longWays() map[string][]int {
	ways := make(map[string][]int)
	for _, bits := range []uint64{0, ones, 0x55555555, 0x3ac5963c} {
		sides := make([]int, 32)
		way := ""
		for k := range sides {
			sides[k] = int(bits >> k & 1)
			way += strconv.Itoa(sides[k])
		}
		ways[way] = sides
	}
	return ways
}

func TestTheWordsFollowTheTree(t *testing.T) { // what the tests below lean on
	for _, x := range []struct{ got, want string }{
		{wayTo(1, 1), ""}, {wayTo(1, 13), "101"}, {wayTo(6, 13), "1"}, {wayTo(2, 8), "00"},
		{labelWay(api.Subset{I: 1}), "K"}, {labelWay(api.Subset{I: 2, J: 11}), "0K11"},
		{keyWay(1, api.Subset{I: 6}), "10K"}, {keyWay(2, api.Subset{I: 1}), "KK"},
		{textOf("10K", 5), "K(L(R(a5)))"},
	} {
		if x.got != x.want {
			t.Errorf("got %q, not %q", x.got, x.want)
		}
	}
	for h := 1; h <= api.MaxHeight; h++ {
		for _, s := range far(h) {
			if !isSubset(h, s) {
				t.Errorf("%d: %v is none", h, s)
			}
		}
	}
	for _, m := range masters() {
		if e := value.Check(m.l, m.v); e != api.OK {
			t.Errorf("%v: %d", m, e)
		}
	}
}

func TestWholeSubtreesByTheirLastPart(t *testing.T) { // the chapter's example
	k, l, e := label.Key(atoms(1, 0), 2, api.WholeS, place(0), api.Subset{I: 3})
	text, f := term.Text(l, k.T)
	if text != "K(R(a0))" || k != place(2) || !slices.Equal(l, []api.Term{atom(0), right(0), key(1)}) || e != api.OK || f != api.OK {
		t.Errorf("got %q: %v, %v, %d, %d", text, k, l, e, f)
	}
}

func TestWalkByHand(t *testing.T) { // P13.1: blocks were worked out of chapter 3 apart from all packages
	const x, y = 0x0123456789abcdef, 0xfedcba9876543210
	alternate := slices.Repeat([]int{0, 1}, 16)
	for _, z := range []struct {
		what  string
		l     []api.Term
		v     api.Value
		sides []int
		want  answer
	}{
		{"no sides", nil, block(x, y), nil, answer{v: block(x, y)}},
		{"no sides, some terms", some(), block(x, y), nil, answer{v: block(x, y), l: some()}},
		{"no sides, of a term", some(), place(5), []int{}, answer{v: place(5), l: some()}},
		{"left", nil, block(x, y), []int{0}, answer{v: block(0x2a876d5bd5dace06, 0xaa3a5b97530f5b2)}},
		{"right", nil, block(x, y), []int{1}, answer{v: block(0x153ee5f5771c01b5, 0xb7827dbd2323734)}},
		{"three", nil, block(x, y), []int{1, 0, 1}, answer{v: block(0x2cc940939c623098, 0x2b01a18678b03b64)}},
		{"32, all left", nil, block(0, 0), make([]int, 32), answer{v: block(0x2da26ef926c72dda, 0xfaf4d67fec0cfac)}},
		{"32, all right", some(), block(ones, ones), slices.Repeat([]int{1}, 32), answer{v: block(0x3a100bb47564e64e, 0x6684ecb17ef5fc4), l: some()}},
		{"32, of each kind", nil, block(x, y), alternate, answer{v: block(0xafb79e676853278b, 0x7739af9038c1cd77)}},
		{"left, of a term", atoms(2, 5), place(1), []int{0}, answer{v: place(2), l: []api.Term{atom(5), atom(6), left(1)}}},
		{"right, of a term", atoms(2, 5), place(1), []int{1}, answer{v: place(2), l: []api.Term{atom(5), atom(6), right(1)}}},
		{"both, of a term", atoms(1, 5), place(0), []int{1, 0}, answer{v: place(2), l: []api.Term{atom(5), right(0), left(1)}}},
		{"all there", some(), place(0), []int{0, 1}, answer{v: place(5), l: some()}},
		{"one there, one to be made", some(), place(0), []int{0, 0}, answer{v: place(12), l: append(some(), left(1))}},
		{"two there, two to be made", some(), place(0), []int{0, 1, 1, 0}, answer{v: place(13), l: append(some(), right(5), left(12))}},
		{"behind a key", some(), place(6), []int{0, 1}, answer{v: place(12), l: append(some(), right(8))}},
		{"none there", some(), place(11), []int{1}, answer{v: place(12), l: append(some(), right(11))}},
	} {
		hold(t, told(label.Walk(z.l, z.v, z.sides)), z.want, z.what)
	}
}

func TestWalkByEachWay(t *testing.T) { // P13.1
	for _, m := range masters() {
		eachWay(6, func(sides []int, way string) {
			hold(t, told(label.Walk(m.l, m.v, sides)), walked(m.l, m.v, way), "Walk", m.v, sides)
		})
		for way, sides := range longWays() {
			hold(t, told(label.Walk(m.l, m.v, sides)), walked(m.l, m.v, way), "Walk", m.v, sides)
		}
	}
}

func TestWalkRefusesSides(t *testing.T) { // P13.1
	for _, m := range masters() {
		for _, side := range noSides {
			for _, sides := range [][]int{{side}, {side, 0}, {0, side}, {1, 1, side, 0}, append(make([]int, 31), side), append([]int{side}, make([]int, 31)...)} {
				hold(t, told(label.Walk(m.l, m.v, sides)), failed(api.ErrArg), "Walk", m.v, sides)
			}
		}
		for _, many := range []int{33, 34, 64, 65, 1000, 1 << 16} {
			hold(t, told(label.Walk(m.l, m.v, make([]int, many))), failed(api.ErrArg), "Walk", m.v, many)
		}
	}
}

// nodes are those of a height: all, if it is small, else some of every depth.
func nodes(h int) []uint64 {
	var l []uint64
	if h <= topSmall {
		for n := uint64(1); n < 1<<(h+1); n++ {
			l = append(l, n)
		}
		return l
	}
	for d := range h + 1 {
		for _, bits := range []uint64{0, ones, 0x5a5ac3c396965a3c, 0xa5a53c3c6969a5c3} {
			l = append(l, uint64(1)<<d+bits>>(64-d))
		}
	}
	return l
}

func TestNodeIsWalkedToFromTheMaster(t *testing.T) { // P13.1
	for _, m := range masters() {
		for h := 1; h <= api.MaxHeight; h++ {
			for _, n := range nodes(h) {
				hold(t, told(label.Node(m.l, h, m.v, n)), walked(m.l, m.v, wayTo(1, n)), "Node", h, m.v, n)
			}
		}
	}
}

func TestNodeByHand(t *testing.T) { // P13.1
	const x, y = 0x0123456789abcdef, 0xfedcba9876543210
	for _, z := range []struct {
		what string
		l    []api.Term
		h    int
		m    api.Value
		n    uint64
		want answer
	}{
		{"Root", atoms(1, 5), 3, place(0), 1, answer{v: place(0), l: atoms(1, 5)}},
		{"Root, least height", nil, 1, block(x, y), 1, answer{v: block(x, y)}},
		{"within", atoms(1, 5), 3, place(0), 6, answer{v: place(2), l: []api.Term{atom(5), right(0), left(1)}}},
		{"a leaf", atoms(1, 5), 3, place(0), 13, answer{v: place(3), l: []api.Term{atom(5), right(0), left(1), right(2)}}},
		{"a leaf, by octets", nil, 3, block(x, y), 13, answer{v: block(0x2cc940939c623098, 0x2b01a18678b03b64)}},
		{"the same node of another height", nil, 32, block(x, y), 13, answer{v: block(0x2cc940939c623098, 0x2b01a18678b03b64)}},
		{"the first leaf, greatest height", nil, 32, block(0, 0), 1 << 32, answer{v: block(0x2da26ef926c72dda, 0xfaf4d67fec0cfac)}},
		{"the last leaf, greatest height", nil, 32, block(ones, ones), 1<<33 - 1, answer{v: block(0x3a100bb47564e64e, 0x6684ecb17ef5fc4)}},
	} {
		hold(t, told(label.Node(z.l, z.h, z.m, z.n)), z.want, z.what)
	}
}

func TestNodeRefuses(t *testing.T) { // P13.1
	for _, m := range masters() {
		for h := 1; h <= api.MaxHeight; h++ {
			for _, n := range []uint64{0, 1 << (h + 1), 1<<(h+1) + 1, 1 << 34, 1 << 63, ones} {
				hold(t, told(label.Node(m.l, h, m.v, n)), failed(api.ErrArg), "Node", h, m.v, n)
			}
		}
		for _, h := range noHeights {
			for _, n := range []uint64{0, 1, 2, 3, 1 << 33, ones} {
				hold(t, told(label.Node(m.l, h, m.v, n)), failed(api.ErrArg), "Node", h, m.v, n)
			}
		}
	}
}

func holdText(t *testing.T, what string, got answer, want string) {
	t.Helper()
	if text, e := term.Text(got.l, got.v.T); text != want || !got.v.Sym || got.e != api.OK || e != api.OK {
		t.Errorf("%s: got %q, %v, not %q", what, text, got, want)
	}
}

func TestLabelAndKeyByHand(t *testing.T) { // P13.2, P13.3
	const x, y = 0x0123456789abcdef, 0xfedcba9876543210
	for _, z := range []struct {
		what       string
		h, scheme  int
		s          api.Subset
		label, key string
	}{
		{"Root, whole", 3, api.WholeS, api.Subset{I: 1}, "K(a5)", "K(a5)"},
		{"Root, by differences", 3, api.DiffS, api.Subset{I: 1}, "K(a5)", "K(K(a5))"},
		{"Root, by useful ones", 3, api.LayerS, api.Subset{I: 1}, "K(a5)", "K(K(a5))"},
		{"a child of Root, whole", 3, api.WholeS, api.Subset{I: 3}, "K(R(a5))", "K(R(a5))"},
		{"one within, whole", 3, api.WholeS, api.Subset{I: 6}, "K(L(R(a5)))", "K(L(R(a5)))"},
		{"a leaf, whole", 3, api.WholeS, api.Subset{I: 13}, "K(R(L(R(a5))))", "K(R(L(R(a5))))"},
		{"Root but its child", 3, api.DiffS, api.Subset{I: 1, J: 2}, "L(K(a5))", "K(L(K(a5)))"},
		{"Root but its other child", 3, api.LayerS, api.Subset{I: 1, J: 3}, "R(K(a5))", "K(R(K(a5)))"},
		{"Root but a leaf", 3, api.DiffS, api.Subset{I: 1, J: 12}, "L(L(R(K(a5))))", "K(L(L(R(K(a5)))))"},
		{"one within but its child", 3, api.LayerS, api.Subset{I: 3, J: 6}, "L(K(R(a5)))", "K(L(K(R(a5))))"},
		{"one within but a leaf", 3, api.DiffS, api.Subset{I: 2, J: 11}, "R(R(K(L(a5))))", "K(R(R(K(L(a5)))))"},
		{"right above a leaf, but that", 3, api.LayerS, api.Subset{I: 6, J: 13}, "R(K(L(R(a5))))", "K(R(K(L(R(a5)))))"},
		{"least height", 1, api.DiffS, api.Subset{I: 1, J: 3}, "R(K(a5))", "K(R(K(a5)))"},
	} {
		holdText(t, z.what, told(label.Label(atoms(1, 5), z.h, place(0), z.s)), z.label)
		holdText(t, z.what, told(label.Key(atoms(1, 5), z.h, z.scheme, place(0), z.s)), z.key)
	}
	for _, z := range []struct {
		s          api.Subset
		label, key api.Value
	}{
		{api.Subset{I: 1}, block(0xd1af8af1323268e, 0xc2dc9e91b640dc3d), block(0xc168dca7cff93c70, 0x539308234a577f82)},
		{api.Subset{I: 2, J: 11}, block(0x7f8c72b28fd99647, 0xfd0bfaca78cf4a2f), block(0x602ab5e9edb96f81, 0xb181e9f4432adfa8)},
	} {
		hold(t, told(label.Label(some(), 3, block(x, y), z.s)), answer{v: z.label, l: some()}, "Label", z.s)
		hold(t, told(label.Key(some(), 3, api.DiffS, block(x, y), z.s)), answer{v: z.key, l: some()}, "Key", z.s)
	}
	six := answer{v: block(0xf84effb72551da53, 0x92e15b32eda7d36b)}
	hold(t, told(label.Label(nil, 3, block(x, y), api.Subset{I: 6})), six, "Label", 6)
	hold(t, told(label.Key(nil, 3, api.WholeS, block(x, y), api.Subset{I: 6})), six, "Key", 6)
}

// holdSubset holds what is told of a subset, by each scheme, against the words.
func holdSubset(t *testing.T, h int, m answer, s api.Subset) {
	t.Helper()
	hold(t, told(label.Label(m.l, h, m.v, s)), walked(m.l, m.v, labelWay(s)), "Label", h, m.v, s)
	for _, scheme := range schemes {
		want := failed(api.ErrArg)
		if may(h, scheme, s) {
			want = walked(m.l, m.v, keyWay(scheme, s))
		}
		hold(t, told(label.Key(m.l, h, scheme, m.v, s)), want, "Key", h, scheme, m.v, s)
	}
}

func TestEachSubset(t *testing.T) { // P13.2, P13.3
	for _, m := range masters() {
		for h := 1; h <= topSmall; h++ {
			for _, s := range subsets(h) {
				holdSubset(t, h, m, s)
			}
		}
	}
}

func TestSubsetsOfEveryHeight(t *testing.T) { // P13.2, P13.3
	for h := 1; h <= api.MaxHeight; h++ {
		for _, s := range far(h) {
			for _, m := range []answer{{v: block(uint64(h), 9)}, {v: place(0), l: some()}} {
				holdSubset(t, h, m, s)
			}
			holdText(t, "Label", told(label.Label(some(), h, place(0), s)), textOf(labelWay(s), 7))
		}
	}
}

func TestSubsetsThatMayNotBe(t *testing.T) { // P13.2, P13.3
	for _, m := range masters() {
		for h := 1; h <= api.MaxHeight; h++ {
			end := uint64(1) << (h + 1)
			for _, s := range []api.Subset{
				{}, {J: 1}, {J: 2}, {I: 1, J: 1}, {I: 2, J: 1}, {I: 2, J: 2}, {I: 2, J: 3}, {I: 3, J: 2}, {I: 3, J: 4}, {I: end - 1, J: end - 1},
				{I: end}, {I: end, J: 1}, {I: 1, J: end}, {I: end / 2, J: end}, {I: 1, J: end + 1}, {I: ones}, {I: 1, J: ones}, {I: 1 << 63, J: 1 << 63},
			} {
				hold(t, told(label.Label(m.l, h, m.v, s)), failed(api.ErrArg), "Label", h, m.v, s)
				for _, scheme := range slices.Concat(schemes, noSchemes) {
					hold(t, told(label.Key(m.l, h, scheme, m.v, s)), failed(api.ErrArg), "Key", h, scheme, m.v, s)
				}
			}
		}
	}
}

func TestHeightsAndSchemesThereAreNot(t *testing.T) { // P13.2, P13.3
	for _, m := range masters() {
		for _, s := range []api.Subset{{}, {I: 1}, {I: 2}, {I: 1, J: 2}, {I: 1, J: 3}, {I: 2, J: 4}} {
			for _, h := range noHeights {
				hold(t, told(label.Label(m.l, h, m.v, s)), failed(api.ErrArg), "Label", h, m.v, s)
				for _, scheme := range slices.Concat(schemes, noSchemes) {
					hold(t, told(label.Key(m.l, h, scheme, m.v, s)), failed(api.ErrArg), "Key", h, scheme, m.v, s)
				}
			}
			for _, scheme := range noSchemes {
				for h := 1; h <= api.MaxHeight; h++ {
					hold(t, told(label.Key(m.l, h, scheme, m.v, s)), failed(api.ErrArg), "Key", h, scheme, m.v, s)
				}
			}
		}
	}
}

// refuseValue holds that no call takes terms and a value, whatever else it is handed.
func refuseValue(t *testing.T, what string, l []api.Term, v api.Value) {
	t.Helper()
	for _, sides := range [][]int{nil, {0}, {1, 0}, make([]int, 32), {2}, make([]int, 33)} {
		hold(t, told(label.Walk(l, v, sides)), failed(api.ErrArg), "Walk", what, sides)
	}
	for _, h := range []int{0, 1, 3, 32, 33} {
		for _, n := range []uint64{0, 1, 2, 3, 8} {
			hold(t, told(label.Node(l, h, v, n)), failed(api.ErrArg), "Node", what, h, n)
		}
		for _, s := range []api.Subset{{}, {I: 1}, {I: 3}, {I: 1, J: 2}, {I: 1, J: 3}, {I: 2, J: 11}} {
			hold(t, told(label.Label(l, h, v, s)), failed(api.ErrArg), "Label", what, h, s)
			for scheme := range 5 {
				hold(t, told(label.Key(l, h, scheme, v, s)), failed(api.ErrArg), "Key", what, h, scheme, s)
			}
		}
	}
}

func TestTermsThatMayNotBe(t *testing.T) { // P13.1, P13.2, P13.3: by octets too, and where what is asked for is there
	for what, l := range map[string][]api.Term{
		"no kind":                  {atom(0), {}},
		"kind 6":                   {atom(0), {Kind: 6}},
		"no such atom":             {atom(0), atom(-1)},
		"beyond MaxAtom":           {atom(0), atom(api.MaxAtom + 1)},
		"an atom with a B":         {atom(0), {Kind: api.AtomT, A: 2, B: 1}},
		"of itself":                {atom(0), left(1)},
		"of one behind it":         {atom(0), key(2), atom(1)},
		"of none":                  {atom(0), key(-1)},
		"a part with a B":          {atom(0), atom(1), {Kind: api.RightT, A: 0, B: 1}},
		"a wrapping of itself":     {atom(0), wrap(0, 1)},
		"one twice":                {atom(0), left(0), key(0), right(0), left(0)},
		"only the last one is bad": append(atoms(300, 0), left(300)),
		"one too many":             atoms(api.MaxTerms+1, 0),
	} {
		refuseValue(t, what, l, place(0))
		refuseValue(t, what+", by octets", l, block(1, 2))
	}
}

func TestValuesThatMayNotBe(t *testing.T) { // P13.1, P13.2, P13.3
	for _, l := range [][]api.Term{nil, {}, some()} {
		for _, i := range []int{math.MinInt, -1 << 32, -1, len(l), len(l) + 1, api.MaxTerms, 1 << 32, math.MaxInt} {
			refuseValue(t, "no such place", l, place(i))
		}
	}
	for what, v := range map[string]api.Value{
		"a term, and a block":         {Sym: true, B: api.Block{1}},
		"a term, and a block's end":   {Sym: true, B: api.Block{0, 1}},
		"a term, and what was sealed": {Sym: true, S: api.Sealed{C: api.Block{1}}},
		"a term, and a tag":           {Sym: true, S: api.Sealed{T: api.Block{0, 1}}},
		"a term that tells Sealed":    {Sym: true, Sealed: true},
		"a block, and a place":        {B: api.Block{1, 2}, T: 1},
		"a block, and one below 0":    {B: api.Block{1, 2}, T: -1},
		"a block, and a sealed one":   {B: api.Block{1, 2}, S: api.Sealed{C: api.Block{0, 1}}},
		"a block, and a tag":          {B: api.Block{1, 2}, S: api.Sealed{T: api.Block{1}}},
		"sealed, and a block":         {Sealed: true, B: api.Block{1, 2}},
		"sealed, and a place":         {Sealed: true, T: 1},
	} {
		refuseValue(t, what, some(), v)
	}
}

func TestValuesThatAreSealed(t *testing.T) { // P13.1, P13.2, P13.3: with no sides, too
	for _, v := range []api.Value{{Sealed: true}, sealed(api.Block{1, 2}, api.Block{3, 4}), {Sealed: true, S: api.Sealed{T: api.Block{1}}}} {
		refuseValue(t, "by octets", nil, v)
		refuseValue(t, "by octets, some terms", some(), v)
	}
	for _, i := range []int{3, 4, 10} {
		refuseValue(t, "by a term", some(), place(i))
	}
	// Among terms there may be parts of a wrapping, which value.Part would not make.
	refuseValue(t, "a wrapping with parts", []api.Term{atom(0), wrap(0, 0), left(1), right(1), key(1), left(4), right(4)}, place(1))
	parts := []api.Term{atom(0), wrap(0, 0), left(1), key(2)}
	hold(t, told(label.Walk(parts, place(2), []int{1})), answer{v: place(4), l: append(slices.Clone(parts), right(2))}, "Walk", "from a part of a wrapping")
}

func TestNearlyFullLists(t *testing.T) { // P13.1, P13.2, P13.3: what is there needs no room, and where there is none all is zero
	whole := api.Subset{I: 2}
	diff := api.Subset{I: 2, J: 11}
	for _, room := range []int{0, 1, 2, 4} {
		// All that is there of a0's, behind all others: L(a0), and K(L(a0)), and R(K(L(a0))).
		l := append(atoms(api.MaxTerms-room-3, 0), left(0))
		at := len(l) - 1
		l = append(l, key(at), right(at+1))
		for way, call := range map[string]answer{
			"":      told(label.Walk(l, place(0), nil)),
			"0":     told(label.Walk(l, place(0), []int{0})),
			"00":    told(label.Walk(l, place(0), []int{0, 0})),
			"0011":  told(label.Walk(l, place(0), []int{0, 0, 1, 1})),
			"11":    told(label.Node(l, 3, place(0), 7)),
			"101":   told(label.Node(l, 3, place(0), 13)),
			"0K":    told(label.Label(l, 3, place(0), whole)),
			"0K1":   told(label.Label(l, 3, place(0), api.Subset{I: 2, J: 5})),
			"0K11":  told(label.Label(l, 3, place(0), diff)),
			"0K10":  told(label.Label(l, 3, place(0), api.Subset{I: 2, J: 10})),
			"0K0":   told(label.Label(l, 3, place(0), api.Subset{I: 2, J: 4})),
			"0K1K":  told(label.Key(l, 3, api.LayerS, place(0), api.Subset{I: 2, J: 5})),
			"0K11K": told(label.Key(l, 3, api.DiffS, place(0), diff)),
			"101K":  told(label.Key(l, 3, api.WholeS, place(0), api.Subset{I: 13})),
			"KK":    told(label.Key(l, 3, api.DiffS, place(0), api.Subset{I: 1})),
		} {
			hold(t, call, walked(l, place(0), way), "room for", room, way)
		}
		hold(t, told(label.Key(l, 3, api.WholeS, place(0), whole)), told(label.Label(l, 3, place(0), whole)), "Key", room, whole)
		hold(t, told(label.Walk(l, place(0), make([]int, 32))), failed(api.ErrFull), "Walk", room, 32)
		hold(t, told(label.Key(l, 32, api.DiffS, block(1, 2), api.Subset{I: 1, J: 1 << 32})), walked(l, block(1, 2), "K"+strings.Repeat("0", 32)+"K"), "by octets", room)
	}
}

func TestErrArgIsToldAheadOfErrFull(t *testing.T) { // P13.1, P13.2, P13.3
	full := append(atoms(api.MaxTerms-1, 0), wrap(0, 1))
	hold(t, told(label.Walk(full, place(0), []int{0})), failed(api.ErrFull), "Walk")
	for _, sides := range [][]int{{0, 2}, {1, -1}, append(make([]int, 31), 2), make([]int, 33)} {
		hold(t, told(label.Walk(full, place(0), sides)), failed(api.ErrArg), "Walk", sides)
	}
	hold(t, told(label.Node(full, 3, place(0), 15)), failed(api.ErrFull), "Node")
	hold(t, told(label.Node(full, 3, place(0), 16)), failed(api.ErrArg), "Node", 16)
	hold(t, told(label.Label(full, 3, place(0), api.Subset{I: 1})), failed(api.ErrFull), "Label")
	hold(t, told(label.Label(full, 3, place(0), api.Subset{I: 2, J: 3})), failed(api.ErrArg), "Label", "2 but 3")
	hold(t, told(label.Key(full, 3, api.DiffS, place(0), api.Subset{I: 1})), failed(api.ErrFull), "Key")
	hold(t, told(label.Key(full, 3, api.DiffS, place(0), api.Subset{I: 2})), failed(api.ErrArg), "Key", "may not be of the scheme")
	hold(t, told(label.Key(full, 3, 4, place(0), api.Subset{I: 1})), failed(api.ErrArg), "Key", "no scheme")
	refuseValue(t, "a full list, and a wrapping", full, place(api.MaxTerms-1))
	refuseValue(t, "a full list, and none", full, place(api.MaxTerms))
}

func TestWalkedInTwoGoes(t *testing.T) { // P13.4
	check := func(m answer, sides []int) {
		once := told(label.Walk(m.l, m.v, sides))
		for k := range len(sides) + 1 {
			first := told(label.Walk(m.l, m.v, sides[:k]))
			second := told(label.Walk(first.l, first.v, sides[k:]))
			hold(t, second, once, "in two goes", m.v, sides, k)
			if first.e != api.OK {
				t.Errorf("%v, %v: %d", m.v, sides[:k], first.e)
			}
		}
	}
	for _, m := range masters() {
		eachWay(6, func(sides []int, _ string) { check(m, sides) })
		for _, sides := range longWays() {
			check(m, sides)
		}
	}
}

func TestNodesBelowOnesAreWalkedToFromThem(t *testing.T) { // P13.4: of each two nodes, the one above the other one
	for _, m := range masters() {
		for _, s := range subsets(3) {
			if s.J == 0 {
				continue
			}
			above := told(label.Node(m.l, 3, m.v, s.I))
			var sides []int
			for _, c := range wayTo(s.I, s.J) {
				sides = append(sides, int(c-'0'))
			}
			hold(t, told(label.Walk(above.l, above.v, sides)), told(label.Node(m.l, 3, m.v, s.J)), "Walk", s)
			root := told(label.Label(m.l, 3, m.v, api.Subset{I: s.I}))
			hold(t, told(label.Walk(root.l, root.v, sides)), told(label.Label(m.l, 3, m.v, s)), "Label", s)
		}
	}
}

// apart holds that of subsets, one after the other, no two have one label, nor of a scheme one key.
func apart(t *testing.T, h int, all []api.Subset) {
	t.Helper()
	for scheme := range 4 { // 0: labels
		seen := make(map[int]api.Subset)
		l := some()
		for _, s := range all {
			if scheme != 0 && !may(h, scheme, s) {
				continue
			}
			var v api.Value
			var e api.Errno
			if scheme == 0 {
				v, l, e = label.Label(l, h, place(0), s)
			} else {
				v, l, e = label.Key(l, h, scheme, place(0), s)
			}
			if e != api.OK || !v.Sym {
				t.Fatalf("%d, %d, %v: %v, %d", h, scheme, s, v, e)
			}
			if other, is := seen[v.T]; is && other != s {
				t.Errorf("%d, %d: %v and %v", h, scheme, other, s)
			}
			seen[v.T] = s
		}
	}
}

func TestNoTwoLabelsAreTheSameNorTwoKeys(t *testing.T) { // P13.4
	for h := 1; h <= topSmall; h++ {
		apart(t, h, subsets(h))
	}
	for _, h := range []int{5, 9, 16, 17, 31, 32} {
		apart(t, h, far(h))
	}
}

func TestLabelsByTermsStandForThoseByOctets(t *testing.T) { // P13.2, P13.3, and R5: one rule for both
	b := api.Block{0x0123456789abcdef, 0xfedcba9876543210}
	drawn := make([]api.Block, 8)
	drawn[7] = b
	for h := 1; h <= 3; h++ {
		for _, s := range subsets(h) {
			v, l, _ := label.Label(some(), h, place(0), s)
			sym, e := value.Eval(l, v.T, drawn)
			hold(t, told(label.Label(nil, h, api.Value{B: b}, s)), answer{v: sym, e: e}, "Label", h, s)
			for _, scheme := range schemes {
				if !may(h, scheme, s) {
					continue
				}
				v, l, _ := label.Key(some(), h, scheme, place(0), s)
				sym, e := value.Eval(l, v.T, drawn)
				hold(t, told(label.Key(nil, h, scheme, api.Value{B: b}, s)), answer{v: sym, e: e}, "Key", h, scheme, s)
			}
		}
	}
}

// withRoom is a list with room behind it, and terms in that, which a careless append would write into.
func withRoom(l []api.Term) []api.Term {
	return append(slices.Clone(l), atoms(40, 900)...)[:len(l)]
}

// calls are of all kinds: by octets and by terms, with nothing to make, with some of it there, and with none.
func calls() map[string]func(l []api.Term) answer {
	walk := func(v api.Value, sides ...int) func(l []api.Term) answer {
		return func(l []api.Term) answer { return told(label.Walk(l, v, sides)) }
	}
	node := func(v api.Value, n uint64) func(l []api.Term) answer {
		return func(l []api.Term) answer { return told(label.Node(l, 3, v, n)) }
	}
	labelOf := func(v api.Value, s api.Subset) func(l []api.Term) answer {
		return func(l []api.Term) answer { return told(label.Label(l, 3, v, s)) }
	}
	keyOf := func(v api.Value, s api.Subset) func(l []api.Term) answer {
		return func(l []api.Term) answer { return told(label.Key(l, 3, api.DiffS, v, s)) }
	}
	m := make(map[string]func(l []api.Term) answer)
	for name, v := range map[string]api.Value{"octets": block(1, 2), "a term": place(0), "another term": place(9)} {
		m["no sides, by "+name] = walk(v)
		m["some sides, by "+name] = walk(v, 0, 1)
		m["more sides, by "+name] = walk(v, 0, 1, 1)
		m["Root, by "+name] = node(v, 1)
		m["a node, by "+name] = node(v, 5)
		m["a leaf, by "+name] = node(v, 11)
		m["label of Root, by "+name] = labelOf(v, api.Subset{I: 1})
		m["a label, by "+name] = labelOf(v, api.Subset{I: 1, J: 4})
		m["a key that is there, by "+name] = keyOf(v, api.Subset{I: 1, J: 2})
		m["a key, by "+name] = keyOf(v, api.Subset{I: 2, J: 11})
	}
	return m
}

func TestWhatIsHandedInStaysAndWhatIsToldIsNew(t *testing.T) { // R2
	for name, call := range calls() {
		l := withRoom(some())
		room := l[:cap(l)]
		kept := slices.Clone(room)
		first := call(l)
		want := slices.Clone(first.l)
		second := call(l)
		if !slices.Equal(room, kept) {
			t.Fatalf("%s: terms, or what is behind them, are now %v", name, room)
		}
		clear(room) // whoever handed them in writes into them
		clear(second.l[:cap(second.l)])
		if first.e != api.OK || !slices.Equal(first.l, want) {
			t.Errorf("%s: %v, and now %v", name, want, first)
		}
		for i := range first.l[:cap(first.l)] { // and so does whoever was told them
			first.l[:cap(first.l)][i] = atom(7)
		}
		if slices.Contains(room, atom(7)) || slices.Contains(second.l, atom(7)) {
			t.Errorf("%s: what is told is what was handed in, or was told ahead of it", name)
		}
		if again := call(some()); !slices.Equal(again.l, want) || again.e != api.OK {
			t.Errorf("%s kept: %v", name, again)
		}
	}
}

func TestSidesHandedInStay(t *testing.T) { // R2
	sides := []int{0, 1, 1, 0, 5, 6}
	for _, v := range []api.Value{block(1, 2), place(0)} {
		want := told(label.Walk(some(), v, []int{0, 1, 1, 0}))
		hold(t, told(label.Walk(some(), v, sides[:4])), want, "Walk", v)
		label.Walk(some(), v, sides)
	}
	if !slices.Equal(sides, []int{0, 1, 1, 0, 5, 6}) {
		t.Errorf("sides are now %v", sides)
	}
}
