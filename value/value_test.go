package value_test

import (
	"math"
	"slices"
	"testing"

	"medlar/api"
	"medlar/mix"
	"medlar/seal"
	"medlar/term"
	"medlar/value"
)

const ones = math.MaxUint64

func atom(n int) api.Term    { return api.Term{Kind: api.AtomT, A: n} }
func left(a int) api.Term    { return api.Term{Kind: api.LeftT, A: a} }
func right(a int) api.Term   { return api.Term{Kind: api.RightT, A: a} }
func key(a int) api.Term     { return api.Term{Kind: api.KeyT, A: a} }
func wrap(a, b int) api.Term { return api.Term{Kind: api.WrapT, A: a, B: b} }

func block(x, y uint64) api.Value         { return api.Value{B: api.Block{x, y}} }
func sealed(k, b api.Block) api.Value     { return api.Value{Sealed: true, S: seal.Wrap(k, b)} }
func sealedOf(c, t api.Block) api.Value   { return api.Value{Sealed: true, S: api.Sealed{C: c, T: t}} }
func place(i int) api.Value               { return api.Value{Sym: true, T: i} }
func blockOf(b api.Block) api.Value       { return api.Value{B: b} }
func partOf(b api.Block, i int) api.Block { p, _ := mix.Part(b, i); return p }

// some are terms that may be, of all kinds: a7, L(a7), K(L(a7)), a2, W(K(L(a7)),a2), R(a2), W(a7,a2), and a wrapping of a
// wrapping, which may be among terms, whatever this layer makes.
func some() []api.Term {
	return []api.Term{atom(7), left(0), key(1), atom(2), wrap(2, 3), right(3), wrap(0, 3), wrap(0, 4)}
}

// numbered are n blocks, no two the same.
func numbered(n int) []api.Block {
	l := make([]api.Block, n)
	for i := range l {
		l[i] = api.Block{uint64(i) + 1, uint64(i) * 1000003}
	}
	return l
}

// atoms are n of them, from 0 on.
func atoms(n int) []api.Term {
	l := make([]api.Term, n)
	for i := range l {
		l[i] = atom(i)
	}
	return l
}

// chain is an atom, and n terms of a kind, each a part of the one ahead.
func chain(n, kind int) []api.Term {
	l := []api.Term{atom(0)}
	for i := range n {
		l = append(l, api.Term{Kind: kind, A: i})
	}
	return l
}

var far = []int{math.MinInt, math.MinInt + 1, -1 << 32, -1<<32 + 1, -2, -1, 1 << 32, 1<<32 + 1, math.MaxInt - 1, math.MaxInt}

// badLists are lists of terms that may not be; places 0 and 1 of each that has them would do.
func badLists() [][]api.Term {
	return [][]api.Term{
		{{}},
		{atom(0), atom(1), {}},
		{atom(0), atom(1), {Kind: 6}},
		{atom(0), atom(1), atom(-1)},
		{atom(0), atom(1), atom(api.MaxAtom + 1)},
		{atom(0), atom(1), {Kind: api.AtomT, A: 2, B: 1}},
		{atom(0), atom(1), left(2)},
		{atom(0), atom(1), key(-1)},
		{atom(0), atom(1), {Kind: api.RightT, A: 0, B: 1}},
		{atom(0), atom(1), wrap(0, 2)},
		{atom(0), atom(1), wrap(2, 0)},
		{atom(0), atom(1), wrap(0, 1), wrap(0, 1)},
		{atom(0), atom(1), atom(0)},
		{left(1), atom(0)},
		append(atoms(api.MaxTerms), left(0)),
		append(atoms(api.MaxTerms-1), atom(0)),
	}
}

// answer is all that a call tells.
type answer struct {
	v api.Value
	l []api.Term
	e api.Errno
}

func told(v api.Value, l []api.Term, e api.Errno) answer { return answer{v, l, e} }

func toldValue(v api.Value, e api.Errno) answer { return answer{v: v, e: e} }

func failed(e api.Errno) answer { return answer{e: e} }

func hold(t *testing.T, got, want answer, name string, args ...any) {
	t.Helper()
	if got.v != want.v || got.e != want.e || !slices.Equal(got.l, want.l) {
		if len(got.l) > 20 || len(want.l) > 20 {
			t.Errorf("%s%v = %v, %d, %d terms", name, args, got.v, got.e, len(got.l))
			return
		}
		t.Errorf("%s%v = %v; the chapter asks for %v", name, args, got, want)
	}
}

// The next functions are the chapter's words written out apart, field by field and with numbers for kinds and errors.

func valueMayBe(l []api.Term, v api.Value) bool {
	if term.Check(l) != api.OK {
		return false
	}
	noB := v.B[0] == 0 && v.B[1] == 0
	noS := v.S.C[0] == 0 && v.S.C[1] == 0 && v.S.T[0] == 0 && v.S.T[1] == 0
	if v.Sym {
		return v.T >= 0 && v.T < len(l) && !v.Sealed && noB && noS
	}
	if v.Sealed {
		return v.T == 0 && noB
	}
	return v.T == 0 && noS
}

func valueIsSealed(l []api.Term, v api.Value) bool {
	if v.Sym {
		return l[v.T].Kind == 5
	}
	return v.Sealed
}

func wordsMake(l []api.Term, t api.Term) answer {
	i, made, e := term.Make(l, t)
	if e != 0 {
		return failed(e)
	}
	return answer{place(i), made, 0}
}

func wordsCheck(l []api.Term, v api.Value) api.Errno {
	if !valueMayBe(l, v) {
		return 1
	}
	return 0
}

func wordsAtom(l []api.Term, sym bool, n int, b api.Block) answer {
	if term.Check(l) != 0 {
		return failed(1)
	}
	if sym {
		return wordsMake(l, api.Term{Kind: 1, A: n})
	}
	return answer{blockOf(b), l, 0}
}

func wordsPart(l []api.Term, v api.Value, i int) answer {
	if !valueMayBe(l, v) || valueIsSealed(l, v) {
		return failed(1)
	}
	if i != 0 && i != 1 && i != 2 {
		return failed(1)
	}
	if v.Sym {
		return wordsMake(l, api.Term{Kind: []int{2, 3, 4}[i], A: v.T})
	}
	return answer{blockOf(partOf(v.B, i)), l, 0}
}

func wordsWrap(l []api.Term, k, v api.Value) answer {
	if !valueMayBe(l, k) || !valueMayBe(l, v) || k.Sym != v.Sym || valueIsSealed(l, k) || valueIsSealed(l, v) {
		return failed(1)
	}
	if k.Sym {
		return wordsMake(l, api.Term{Kind: 5, A: k.T, B: v.T})
	}
	return answer{sealed(k.B, v.B), l, 0}
}

func wordsUnwrap(l []api.Term, k, w api.Value) answer {
	if !valueMayBe(l, k) || !valueMayBe(l, w) || k.Sym != w.Sym || valueIsSealed(l, k) || !valueIsSealed(l, w) {
		return failed(1)
	}
	if !k.Sym {
		b, e := seal.Unwrap(k.B, w.S)
		return answer{v: blockOf(b), e: e}
	}
	if l[w.T].A != k.T {
		return failed(7)
	}
	return answer{v: place(l[w.T].B)}
}

func wordsEval(l []api.Term, i int, with []api.Block) answer {
	if term.Check(l) != 0 || i < 0 || i >= len(l) {
		return failed(1)
	}
	v, misused, lacks := look(l, i, with)
	if misused {
		return failed(1)
	}
	if lacks {
		return failed(4)
	}
	return answer{v: v}
}

// look reads a term from above, and tells what comes of it, whether it uses what is sealed, and whether an atom has no block.
func look(l []api.Term, i int, with []api.Block) (v api.Value, misused, lacks bool) {
	t := l[i]
	if t.Kind == 1 {
		if t.A >= len(with) {
			return v, false, true
		}
		return blockOf(with[t.A]), false, false
	}
	a, misused, lacks := look(l, t.A, with)
	misused = misused || l[t.A].Kind == 5
	if t.Kind == 5 {
		b, more, none := look(l, t.B, with)
		return sealed(a.B, b.B), misused || more || l[t.B].Kind == 5, lacks || none
	}
	return blockOf(partOf(a.B, t.Kind-2)), misused, lacks
}

// eachSmall hands in each list of at most n terms that may be, of atoms 0 and 1 and what is made of them.
func eachSmall(n int, do func(l []api.Term)) {
	var more func(l []api.Term)
	more = func(l []api.Term) {
		do(l)
		if len(l) == n {
			return
		}
		next := []api.Term{atom(0), atom(1)}
		for a := range l {
			next = append(next, left(a), right(a), key(a))
			for b := range l {
				next = append(next, wrap(a, b))
			}
		}
		for _, t := range next {
			if !slices.Contains(l, t) {
				more(append(slices.Clone(l), t))
			}
		}
	}
	more(nil)
}

// pool are values that may be with n terms, and ones that may not.
func pool(n int) []api.Value {
	l := []api.Value{
		{}, block(1, 0), block(0, 1), block(3, 4), block(ones, ones),
		{Sealed: true}, sealed(api.Block{1, 0}, api.Block{3, 4}), sealed(api.Block{}, api.Block{ones, ones}), sealedOf(api.Block{1}, api.Block{}), sealedOf(api.Block{}, api.Block{0, 1}),
		{T: 1}, {T: -1}, {B: api.Block{1}, T: 1}, {S: api.Sealed{C: api.Block{1}}}, {B: api.Block{1, 2}, S: api.Sealed{T: api.Block{0, 3}}},
		{Sealed: true, T: 1}, {Sealed: true, B: api.Block{1}}, {Sealed: true, B: api.Block{0, 1}, S: seal.Wrap(api.Block{1, 0}, api.Block{3, 4})},
		{Sym: true, Sealed: true}, {Sym: true, B: api.Block{1}}, {Sym: true, S: api.Sealed{T: api.Block{0, 1}}}, {Sym: true, Sealed: true, S: seal.Wrap(api.Block{}, api.Block{})},
	}
	for i := -1; i <= n; i++ {
		l = append(l, place(i))
	}
	return append(l, place(math.MinInt), place(math.MaxInt), place(1<<32))
}

func TestEachSmallListByTheWords(t *testing.T) { // P7.1, P7.2, P7.3
	eachSmall(3, func(l []api.Term) {
		for _, v := range pool(len(l)) {
			if e := value.Check(l, v); e != wordsCheck(l, v) {
				t.Errorf("Check(%v, %v) = %d", l, v, e)
			}
			for i := -2; i <= 6; i++ {
				hold(t, told(value.Part(l, v, i)), wordsPart(l, v, i), "Part", l, v, i)
			}
			for _, w := range pool(len(l)) {
				hold(t, told(value.Wrap(l, v, w)), wordsWrap(l, v, w), "Wrap", l, v, w)
				hold(t, toldValue(value.Unwrap(l, v, w)), wordsUnwrap(l, v, w), "Unwrap", l, v, w)
			}
		}
		for n := -2; n <= 4; n++ {
			for _, b := range []api.Block{{}, {5, 6}} {
				hold(t, told(value.Atom(l, true, n, b)), wordsAtom(l, true, n, b), "Atom", l, true, n, b)
				hold(t, told(value.Atom(l, false, n, b)), wordsAtom(l, false, n, b), "Atom", l, false, n, b)
			}
		}
	})
}

func TestEachSmallTermIsWorkedOut(t *testing.T) { // P7.4
	eachSmall(4, func(l []api.Term) {
		for i := -1; i <= len(l); i++ {
			for n := range 4 {
				with := numbered(n)
				hold(t, toldValue(value.Eval(l, i, with)), wordsEval(l, i, with), "Eval", l, i, with)
			}
		}
	})
}

// eachForm hands in values with each field zero and not, with each sign of Sym and Sealed.
func eachForm(places []int, do func(v api.Value)) {
	for bits := range 1 << 8 {
		one := func(k int) uint64 { return uint64(bits>>k&1) << (k * 9) }
		for _, i := range places {
			do(api.Value{
				Sym: bits>>6&1 == 1, Sealed: bits>>7&1 == 1, T: i,
				B: api.Block{one(0), one(1)},
				S: api.Sealed{C: api.Block{one(2), one(3)}, T: api.Block{one(4), one(5)}},
			})
		}
	}
}

func TestEachFormOfAValue(t *testing.T) { // P7.1, and that the others refuse what may not be, in each place
	for _, l := range [][]api.Term{nil, {}, some()} {
		places := append([]int{0, 1, len(l) - 1, len(l), len(l) + 1, api.MaxTerms}, far...)
		eachForm(places, func(v api.Value) {
			e := value.Check(l, v)
			if e != wordsCheck(l, v) {
				t.Errorf("Check(%v, %v) = %d", l, v, e)
			}
			if e == api.OK {
				return
			}
			good, goodSealed := block(1, 2), sealed(api.Block{1, 2}, api.Block{3, 4})
			if v.Sym {
				good, goodSealed = place(0), place(4)
			}
			for i := api.LeftP; i <= api.KeyP; i++ {
				hold(t, told(value.Part(l, v, i)), failed(api.ErrArg), "Part", v, i)
			}
			hold(t, told(value.Wrap(l, v, good)), failed(api.ErrArg), "Wrap", v, good)
			hold(t, told(value.Wrap(l, good, v)), failed(api.ErrArg), "Wrap", good, v)
			hold(t, told(value.Wrap(l, v, v)), failed(api.ErrArg), "Wrap", v, v)
			hold(t, toldValue(value.Unwrap(l, v, goodSealed)), failed(api.ErrArg), "Unwrap", v, goodSealed)
			hold(t, toldValue(value.Unwrap(l, good, v)), failed(api.ErrArg), "Unwrap", good, v)
		})
	}
}

func TestValuesThatMayBe(t *testing.T) { // P7.1
	for _, v := range []api.Value{{}, block(1, 0), block(0, 1), block(ones, ones), {Sealed: true}, sealed(api.Block{}, api.Block{}), sealedOf(api.Block{1}, api.Block{}), sealedOf(api.Block{}, api.Block{0, 1})} {
		for _, l := range [][]api.Term{nil, {}, some()} {
			if e := value.Check(l, v); e != api.OK {
				t.Errorf("Check(%v, %v) = %d", l, v, e)
			}
		}
	}
	for i := range some() {
		if e := value.Check(some(), place(i)); e != api.OK {
			t.Errorf("Check of place %d = %d", i, e)
		}
		if e := value.Check(nil, place(i)); e != api.ErrArg {
			t.Errorf("Check of place %d of no terms = %d", i, e)
		}
	}
	full := atoms(api.MaxTerms)
	for i, want := range map[int]api.Errno{-1: api.ErrArg, 0: api.OK, api.MaxTerms - 1: api.OK, api.MaxTerms: api.ErrArg} {
		if e := value.Check(full, place(i)); e != want {
			t.Errorf("Check of place %d of MaxTerms = %d", i, e)
		}
	}
}

func TestTermsThatMayNotBe(t *testing.T) { // P7.1, P7.2, P7.3, P7.4: also by octets
	k, v, w := block(1, 2), block(3, 4), sealed(api.Block{1, 2}, api.Block{3, 4})
	for n, l := range badLists() {
		for _, x := range []api.Value{{}, v, w, place(0), place(1)} {
			if e := value.Check(l, x); e != api.ErrArg {
				t.Errorf("list %d: Check(%v) = %d", n, x, e)
			}
		}
		for _, sym := range []bool{false, true} {
			for _, a := range []int{0, 5, api.MaxAtom, -1} {
				hold(t, told(value.Atom(l, sym, a, k.B)), failed(api.ErrArg), "Atom", n, sym, a)
			}
		}
		for i := api.LeftP; i <= api.KeyP; i++ {
			hold(t, told(value.Part(l, v, i)), failed(api.ErrArg), "Part", n, v, i)
			hold(t, told(value.Part(l, place(0), i)), failed(api.ErrArg), "Part", n, "place 0", i)
		}
		hold(t, told(value.Wrap(l, k, v)), failed(api.ErrArg), "Wrap", n, k, v)
		hold(t, told(value.Wrap(l, place(0), place(1))), failed(api.ErrArg), "Wrap", n, "places 0 and 1")
		hold(t, toldValue(value.Unwrap(l, k, w)), failed(api.ErrArg), "Unwrap", n, k, w)
		hold(t, toldValue(value.Unwrap(l, v, w)), failed(api.ErrArg), "Unwrap", n, v, w)
		hold(t, toldValue(value.Unwrap(l, place(0), place(2))), failed(api.ErrArg), "Unwrap", n, "places 0 and 2")
		for _, i := range []int{-1, 0, 1, len(l) - 1, len(l)} {
			hold(t, toldValue(value.Eval(l, i, numbered(3))), failed(api.ErrArg), "Eval", n, i)
			hold(t, toldValue(value.Eval(l, i, nil)), failed(api.ErrArg), "Eval", n, i)
		}
	}
}

func TestOneByTermsAndOneByOctets(t *testing.T) { // P7.2, P7.3
	l := some()
	for _, oct := range []api.Value{{}, block(1, 2), {Sealed: true}, sealed(api.Block{1}, api.Block{2})} {
		for i := range l {
			hold(t, told(value.Wrap(l, oct, place(i))), failed(api.ErrArg), "Wrap", oct, i)
			hold(t, told(value.Wrap(l, place(i), oct)), failed(api.ErrArg), "Wrap", i, oct)
			hold(t, toldValue(value.Unwrap(l, oct, place(i))), failed(api.ErrArg), "Unwrap", oct, i)
			hold(t, toldValue(value.Unwrap(l, place(i), oct)), failed(api.ErrArg), "Unwrap", i, oct)
		}
	}
}

func TestAtomsByOctetsAndByTerms(t *testing.T) { // P7.1
	numbers := append([]int{0, 1, 5, api.PayAtom, api.MaxAtom, api.MaxAtom + 1}, far...)
	for _, l := range [][]api.Term{nil, some()} {
		for _, n := range numbers { // by octets the number tells nothing
			for _, b := range []api.Block{{}, {1, 2}, {ones, ones}} {
				hold(t, told(value.Atom(l, false, n, b)), answer{blockOf(b), l, api.OK}, "Atom", l, false, n, b)
			}
		}
		for _, n := range []int{0, 1, 5, api.PayAtom, api.MaxAtom - 1, api.MaxAtom} {
			want := answer{place(len(l)), append(slices.Clone(l), atom(n)), api.OK}
			hold(t, told(value.Atom(l, true, n, api.Block{1, 2})), want, "Atom", l, true, n)
		}
		for _, n := range append([]int{api.MaxAtom + 1, api.MaxAtom + 2}, far...) {
			hold(t, told(value.Atom(l, true, n, api.Block{1, 2})), failed(api.ErrArg), "Atom", l, true, n)
		}
	}
	hold(t, told(value.Atom(some(), true, 7, api.Block{})), answer{place(0), some(), api.OK}, "Atom", "a7")
	hold(t, told(value.Atom(some(), true, 2, api.Block{9, 9})), answer{place(3), some(), api.OK}, "Atom", "a2")
}

func TestPartsOfKnownBlocks(t *testing.T) { // P7.2: the parts were worked out of chapter 3 apart from all packages
	for _, x := range []struct {
		b     api.Block
		parts [3]api.Block
	}{
		{api.Block{0, 0}, [3]api.Block{{0xde8c72a84e971a0b, 0x823242cd8da372ae}, {0x25ab174d59abcd13, 0xe49772087cb4a098}, {0xfcfa2681a25354b6, 0xc06a9384e0f4bb66}}},
		{api.Block{ones, ones}, [3]api.Block{{0x8ae4c51cad3ad865, 0xc940e171b6345545}, {0x709685e8d3bc3763, 0x475163f1bcc2a0cf}, {0x1e1642a7b3a00e04, 0x2113259ad31b7bb8}}},
		{api.Block{0x0123456789abcdef, 0xfedcba9876543210}, [3]api.Block{{0x2a876d5bd5dace06, 0xaa3a5b97530f5b2}, {0x153ee5f5771c01b5, 0xb7827dbd2323734}, {0xd1af8af1323268e, 0xc2dc9e91b640dc3d}}},
	} {
		for i, want := range x.parts {
			for _, l := range [][]api.Term{nil, some()} {
				hold(t, told(value.Part(l, blockOf(x.b), i)), answer{blockOf(want), l, api.OK}, "Part", x.b, i)
			}
			if v, e := value.Eval([]api.Term{atom(0), {Kind: 2 + i}}, 1, []api.Block{x.b}); v != blockOf(want) || e != api.OK {
				t.Errorf("Eval of part %d of %x = %v, %d", i, x.b, v, e)
			}
		}
	}
}

func TestPartsOfTerms(t *testing.T) { // P7.2
	l := some()
	for i, kind := range []int{api.LeftT, api.RightT, api.KeyT} {
		for _, a := range []int{2, 5} { // none of these has a part among the terms
			want := answer{place(len(l)), append(some(), api.Term{Kind: kind, A: a}), api.OK}
			hold(t, told(value.Part(l, place(a), i)), want, "Part", a, i)
		}
		for _, a := range []int{4, 6, 7} {
			hold(t, told(value.Part(l, place(a), i)), failed(api.ErrArg), "Part of a wrapping", a, i)
		}
	}
	// what is there already is not made again
	hold(t, told(value.Part(l, place(0), api.LeftP)), answer{place(1), l, api.OK}, "Part", "a7")
	hold(t, told(value.Part(l, place(1), api.KeyP)), answer{place(2), l, api.OK}, "Part", "L(a7)")
	hold(t, told(value.Part(l, place(3), api.RightP)), answer{place(5), l, api.OK}, "Part", "a2")
}

func TestNoSuchPart(t *testing.T) { // P7.2: MaskP and TagP too
	for _, i := range append([]int{api.MaskP, api.TagP, 5, 6, 255, 256}, far...) {
		for _, v := range []api.Value{{}, block(1, 2), sealed(api.Block{1}, api.Block{2}), place(0), place(3), place(4)} {
			hold(t, told(value.Part(some(), v, i)), failed(api.ErrArg), "Part", v, i)
		}
	}
}

func TestWhatIsSealedHasNoPartsAndIsNotWrapped(t *testing.T) { // P7.2, P7.3
	for _, x := range []struct{ plain, sealed api.Value }{
		{block(1, 2), sealed(api.Block{1, 2}, api.Block{3, 4})},
		{api.Value{}, api.Value{Sealed: true}},
		{place(0), place(6)},
		{place(2), place(4)},
		{place(0), place(7)},
	} {
		for i := -1; i <= 5; i++ {
			hold(t, told(value.Part(some(), x.sealed, i)), failed(api.ErrArg), "Part", x.sealed, i)
		}
		hold(t, told(value.Wrap(some(), x.plain, x.sealed)), failed(api.ErrArg), "Wrap", x.plain, x.sealed)
		hold(t, told(value.Wrap(some(), x.sealed, x.plain)), failed(api.ErrArg), "Wrap", x.sealed, x.plain)
		hold(t, told(value.Wrap(some(), x.sealed, x.sealed)), failed(api.ErrArg), "Wrap", x.sealed, x.sealed)
		hold(t, toldValue(value.Unwrap(some(), x.sealed, x.sealed)), failed(api.ErrArg), "Unwrap", x.sealed, x.sealed)
		hold(t, toldValue(value.Unwrap(some(), x.sealed, x.plain)), failed(api.ErrArg), "Unwrap", x.sealed, x.plain)
		hold(t, toldValue(value.Unwrap(some(), x.plain, x.plain)), failed(api.ErrArg), "Unwrap", x.plain, x.plain)
	}
}

func TestWrapOfKnownBlocks(t *testing.T) { // P7.2, P7.3: worked out of chapter 4 apart from all packages
	allOnes, rising, edges := api.Block{ones, ones}, api.Block{0x0123456789abcdef, 0xfedcba9876543210}, api.Block{1, 1 << 63}
	for _, x := range []struct {
		k, b api.Block
		s    api.Sealed
	}{
		{api.Block{}, api.Block{}, api.Sealed{C: api.Block{0x2d9c5e2bc627663f, 0x129e4502a418020a}, T: api.Block{0x3a0cfc909ad53ff5, 0xac72aab09035e7b4}}},
		{rising, edges, api.Sealed{C: api.Block{0xe1fdc1e367da533f, 0x89be7a6caa5635c1}, T: api.Block{0x3c7ba78f29769595, 0xd9f5077da516ed20}}},
		{edges, rising, api.Sealed{C: api.Block{0xe719e4c918a7425c, 0x7702bd09a4656617}, T: api.Block{0x78d2d39125d16655, 0x3bdedac613c86ed1}}},
		{allOnes, api.Block{0xea3b6ece363dadcd, 0xa8952bff64fa9f6d}, api.Sealed{T: api.Block{0x9217c0fd487e3f0d, 0x68e5377826522001}}}, // C is all zeros
	} {
		w := api.Value{Sealed: true, S: x.s}
		for _, l := range [][]api.Term{nil, some()} {
			hold(t, told(value.Wrap(l, blockOf(x.k), blockOf(x.b))), answer{w, l, api.OK}, "Wrap", x.k, x.b)
			hold(t, toldValue(value.Unwrap(l, blockOf(x.k), w)), answer{v: blockOf(x.b)}, "Unwrap", x.k, x.s)
		}
		if v, e := value.Eval([]api.Term{atom(0), atom(1), wrap(0, 1)}, 2, []api.Block{x.k, x.b}); v != w || e != api.OK {
			t.Errorf("Eval of %x wrapped with %x = %v, %d", x.b, x.k, v, e)
		}
	}
}

func TestWrapOfTerms(t *testing.T) { // P7.2
	l := some()
	for _, x := range [][2]int{{3, 0}, {0, 0}, {5, 1}, {3, 2}} {
		want := answer{place(len(l)), append(some(), wrap(x[0], x[1])), api.OK}
		hold(t, told(value.Wrap(l, place(x[0]), place(x[1]))), want, "Wrap", x)
	}
	hold(t, told(value.Wrap(l, place(2), place(3))), answer{place(4), l, api.OK}, "Wrap", "there already")
	hold(t, told(value.Wrap(l, place(0), place(3))), answer{place(6), l, api.OK}, "Wrap", "there already")
}

func TestTakenOutWithTheSameKeyAndWithNoOther(t *testing.T) { // P7.3
	keys := append(numbered(12), api.Block{}, api.Block{ones, ones}, api.Block{1, 1})
	for i, k := range keys {
		for _, b := range keys {
			w, _, _ := value.Wrap(nil, blockOf(k), blockOf(b))
			for j, other := range keys {
				want := answer{v: blockOf(b)}
				if i != j {
					want = failed(api.ErrTag)
				}
				hold(t, toldValue(value.Unwrap(nil, blockOf(other), w)), want, "Unwrap", other, w)
			}
			for bit := range 128 {
				other := w
				other.S.T[bit/64] ^= 1 << (bit % 64)
				hold(t, toldValue(value.Unwrap(nil, blockOf(k), other)), failed(api.ErrTag), "Unwrap", k, other)
			}
		}
	}
	l := []api.Term{atom(3), atom(1), left(0), right(0), key(2), key(1)}
	for k := range 6 {
		for v := range 6 {
			w, with, _ := value.Wrap(l, place(k), place(v))
			for other := range 6 {
				want := answer{v: place(v)}
				if other != k {
					want = failed(api.ErrTag)
				}
				hold(t, toldValue(value.Unwrap(with, place(other), w)), want, "Unwrap", other, w)
			}
		}
	}
}

func TestAWrappingOfAWrappingIsTakenOut(t *testing.T) { // P7.3: only what is not sealed takes out, but what comes out may be
	l := []api.Term{atom(0), atom(1), wrap(0, 1), wrap(1, 2), wrap(2, 1)}
	hold(t, toldValue(value.Unwrap(l, place(1), place(3))), answer{v: place(2)}, "Unwrap", l)
	hold(t, toldValue(value.Unwrap(l, place(0), place(3))), failed(api.ErrTag), "Unwrap", l)
	hold(t, toldValue(value.Unwrap(l, place(2), place(4))), failed(api.ErrArg), "Unwrap", l)
	hold(t, toldValue(value.Unwrap(l, place(0), place(4))), failed(api.ErrTag), "Unwrap", l)
}

func TestAtomOneWrappedWithAtomZero(t *testing.T) { // the chapter's example
	for _, sym := range []bool{false, true} {
		zero, l, _ := value.Atom(nil, sym, 0, api.Block{1, 2})
		one, l, _ := value.Atom(l, sym, 1, api.Block{3, 4})
		w, l, e := value.Wrap(l, zero, one)
		if e != api.OK {
			t.Errorf("Sym %v: Wrap = %d", sym, e)
		}
		hold(t, toldValue(value.Unwrap(l, one, w)), failed(api.ErrTag), "Unwrap", l, one, w)
		hold(t, toldValue(value.Unwrap(l, zero, w)), answer{v: one}, "Unwrap", l, zero, w)
	}
}

func TestFullLists(t *testing.T) { // P7.1, P7.2: what must be added has no room, what is there has
	full := atoms(api.MaxTerms)
	last := api.MaxTerms - 1
	full[last-1], full[last] = key(3), wrap(1, 2)
	hold(t, told(value.Atom(full, true, api.MaxAtom, api.Block{})), failed(api.ErrFull), "Atom", api.MaxAtom)
	hold(t, told(value.Atom(full, true, api.MaxAtom+1, api.Block{})), failed(api.ErrArg), "Atom", api.MaxAtom+1)
	hold(t, told(value.Atom(full, true, 9, api.Block{})), answer{place(9), full, api.OK}, "Atom", 9)
	hold(t, told(value.Atom(full, false, api.MaxAtom, api.Block{1, 2})), answer{block(1, 2), full, api.OK}, "Atom", "by octets")
	for i := api.LeftP; i <= api.KeyP; i++ {
		hold(t, told(value.Part(full, place(2), i)), failed(api.ErrFull), "Part", 2, i)
		hold(t, told(value.Part(full, place(last), i)), failed(api.ErrArg), "Part", last, i)
		hold(t, told(value.Part(full, block(1, 2), i)), answer{blockOf(partOf(api.Block{1, 2}, i)), full, api.OK}, "Part", "by octets", i)
	}
	hold(t, told(value.Part(full, place(2), api.MaskP)), failed(api.ErrArg), "Part", 2, api.MaskP)
	hold(t, told(value.Part(full, place(api.MaxTerms), api.KeyP)), failed(api.ErrArg), "Part", api.MaxTerms)
	hold(t, told(value.Part(full, place(3), api.KeyP)), answer{place(last - 1), full, api.OK}, "Part", 3)
	hold(t, told(value.Wrap(full, place(2), place(1))), failed(api.ErrFull), "Wrap", 2, 1)
	hold(t, told(value.Wrap(full, place(last), place(1))), failed(api.ErrArg), "Wrap", last, 1)
	hold(t, told(value.Wrap(full, place(1), place(last))), failed(api.ErrArg), "Wrap", 1, last)
	hold(t, told(value.Wrap(full, place(1), block(1, 2))), failed(api.ErrArg), "Wrap", 1, "by octets")
	hold(t, told(value.Wrap(full, place(1), place(2))), answer{place(last), full, api.OK}, "Wrap", 1, 2)
	hold(t, told(value.Wrap(full, block(1, 2), block(3, 4))), answer{sealed(api.Block{1, 2}, api.Block{3, 4}), full, api.OK}, "Wrap", "by octets")
	hold(t, toldValue(value.Unwrap(full, place(1), place(last))), answer{v: place(2)}, "Unwrap", 1, last)
	hold(t, toldValue(value.Unwrap(full, place(2), place(last))), failed(api.ErrTag), "Unwrap", 2, last)

	almost := full[:last] // room for one more, which is the last place
	hold(t, told(value.Wrap(almost, place(1), place(2))), answer{place(last), full, api.OK}, "Wrap", "the last place")
	hold(t, told(value.Part(almost, place(5), api.LeftP)), answer{place(last), append(slices.Clone(almost), left(5)), api.OK}, "Part", "the last place")
	hold(t, told(value.Atom(almost, true, api.MaxAtom, api.Block{})), answer{place(last), append(slices.Clone(almost), atom(api.MaxAtom)), api.OK}, "Atom", "the last place")
}

func TestEvalOfSome(t *testing.T) { // P7.4
	with := numbered(8)
	a7, a2 := with[7], with[2]
	k := partOf(partOf(a7, api.LeftP), api.KeyP)
	for i, want := range []answer{
		{v: blockOf(a7)}, {v: blockOf(partOf(a7, api.LeftP))}, {v: blockOf(k)}, {v: blockOf(a2)},
		{v: sealed(k, a2)}, {v: blockOf(partOf(a2, api.RightP))}, {v: sealed(a7, a2)}, failed(api.ErrArg),
	} {
		hold(t, toldValue(value.Eval(some(), i, with)), want, "Eval", i)
		hold(t, toldValue(value.Eval(some(), i, numbered(1000))), want, "Eval", i, "of more blocks than are needed")
		if want.e == api.OK {
			hold(t, toldValue(value.Eval(some(), i, nil)), failed(api.ErrNone), "Eval", i, "of no blocks")
		}
	}
	for i, e := range []api.Errno{api.ErrNone, api.ErrNone, api.ErrNone, api.OK, api.ErrNone, api.OK, api.ErrNone, api.ErrArg} {
		if _, f := value.Eval(some(), i, with[:7]); f != e { // a7 has no block, a2 has
			t.Errorf("Eval(%d) = %d", i, f)
		}
	}
}

func TestEvalOfPlacesThatThereAreNot(t *testing.T) { // P7.4
	for _, l := range [][]api.Term{nil, {}, some()[:7]} {
		for _, i := range append([]int{-1, len(l), len(l) + 1, api.MaxTerms}, far...) {
			for _, with := range [][]api.Block{nil, numbered(9)} {
				hold(t, toldValue(value.Eval(l, i, with)), failed(api.ErrArg), "Eval", l, i, len(with))
			}
		}
	}
}

func TestEvalOfWhatUsesWhatIsSealed(t *testing.T) { // P7.4
	from := []api.Term{atom(0), atom(9), wrap(0, 0)}
	for _, bad := range []api.Term{left(2), right(2), key(2), wrap(2, 0), wrap(0, 2), wrap(2, 2), wrap(2, 1), wrap(1, 2)} {
		l := append(slices.Clone(from), bad)
		for i := range 300 { // deep below parts, and at last below a wrapping of what is far from it
			hold(t, toldValue(value.Eval(l, len(l)-1, numbered(20))), failed(api.ErrArg), "Eval", bad, i)
			l = append(l, api.Term{Kind: api.LeftT + i%3, A: len(l) - 1})
		}
		l = append(l, wrap(1, len(l)-1), wrap(len(l)-1, 1))
		for _, i := range []int{len(l) - 1, len(l) - 2} {
			for _, with := range [][]api.Block{nil, numbered(1), numbered(20)} { // ErrArg, also if atoms have no blocks
				hold(t, toldValue(value.Eval(l, i, with)), failed(api.ErrArg), "Eval", bad, i, len(with))
			}
		}
		// it is in the list, but not in these
		hold(t, toldValue(value.Eval(l, 0, numbered(1))), answer{v: block(1, 0)}, "Eval", bad, 0)
		hold(t, toldValue(value.Eval(l, 2, numbered(1))), answer{v: sealed(api.Block{1, 0}, api.Block{1, 0})}, "Eval", bad, 2)
		hold(t, toldValue(value.Eval(l, 1, numbered(1))), failed(api.ErrNone), "Eval", bad, 1)
	}
}

func TestEvalOfAtomsAtTheEdge(t *testing.T) { // P7.4
	for _, n := range []int{0, 1, 2, 1000, api.PayAtom, api.MaxAtom - 1, api.MaxAtom} {
		with := numbered(n + 1)
		l := []api.Term{atom(n), key(0)}
		hold(t, toldValue(value.Eval(l, 0, with)), answer{v: blockOf(with[n])}, "Eval", n)
		hold(t, toldValue(value.Eval(l, 1, with)), answer{v: blockOf(partOf(with[n], api.KeyP))}, "Eval", n)
		hold(t, toldValue(value.Eval(l, 0, with[:n])), failed(api.ErrNone), "Eval", n)
		hold(t, toldValue(value.Eval(l, 1, with[:n])), failed(api.ErrNone), "Eval", n)
	}
	l := []api.Term{atom(0), atom(1), wrap(0, 1), wrap(1, 0)} // of a wrapping, either may lack a block
	for _, i := range []int{2, 3} {
		hold(t, toldValue(value.Eval(l, i, numbered(1))), failed(api.ErrNone), "Eval", i)
	}
}

func TestEvalOfFullLists(t *testing.T) { // P7.4: MaxTerms, gone through once
	for kind := api.LeftT; kind <= api.KeyT; kind++ {
		l := chain(api.MaxTerms-1, kind)
		want := api.Block{1, 2}
		for range api.MaxTerms - 1 {
			want = partOf(want, kind-api.LeftT)
		}
		hold(t, toldValue(value.Eval(l, api.MaxTerms-1, []api.Block{{1, 2}})), answer{v: blockOf(want)}, "Eval of a chain", kind)
		hold(t, toldValue(value.Eval(l, api.MaxTerms-1, nil)), failed(api.ErrNone), "Eval of a chain", kind)
		hold(t, toldValue(value.Eval(l, api.MaxTerms, []api.Block{{1, 2}})), failed(api.ErrArg), "Eval of a chain", kind)
		l[1] = wrap(0, 0) // and what is sealed is below all the rest
		hold(t, toldValue(value.Eval(l, api.MaxTerms-1, []api.Block{{1, 2}})), failed(api.ErrArg), "Eval of a chain", kind)
	}
	doubled := []api.Term{atom(0)} // as many ways down as 2 to the power of 20000
	for i := range 20000 {
		doubled = append(doubled, wrap(i, i))
	}
	hold(t, toldValue(value.Eval(doubled, 20000, numbered(1))), failed(api.ErrArg), "Eval of what is doubled")
}

// stands tells whether a value by octets is what the term's value stands for.
func stands(t *testing.T, l []api.Term, sym, oct api.Value, with []api.Block) {
	t.Helper()
	v, e := value.Eval(l, sym.T, with)
	if v != oct || e != api.OK {
		t.Errorf("%v of %v stands for %v, %d; by octets it is %v", sym, l, v, e, oct)
	}
}

func TestWhatIsDoneWithTermsIsDoneWithBlocks(t *testing.T) { // P7.5
	with := numbered(2)
	eachSmall(4, func(l []api.Term) {
		for i := range l {
			v, e := value.Eval(l, i, with)
			if e != api.OK {
				continue
			}
			for p := api.LeftP; p <= api.KeyP; p++ {
				sym, behind, e := value.Part(l, place(i), p)
				oct, _, f := value.Part(nil, v, p)
				if e != f {
					t.Errorf("part %d of %d of %v: %d by terms, %d by octets", p, i, l, e, f)
				} else if e == api.OK {
					stands(t, behind, sym, oct, with)
				}
			}
			for k := range l {
				other, e := value.Eval(l, k, with)
				if e != api.OK {
					continue
				}
				sym, behind, e := value.Wrap(l, place(i), place(k))
				oct, _, f := value.Wrap(nil, v, other)
				if e != f {
					t.Errorf("%d wrapped with %d of %v: %d by terms, %d by octets", k, i, l, e, f)
				} else if e == api.OK {
					stands(t, behind, sym, oct, with)
				}
				sym, e = value.Unwrap(l, place(i), place(k))
				oct, f = value.Unwrap(nil, v, other)
				if e != f {
					t.Errorf("%d taken out with %d of %v: %d by terms, %d by octets", k, i, l, e, f)
				} else if e == api.OK {
					stands(t, l, sym, oct, with)
				}
			}
		}
	})
}

func TestALongRunByTermsAndByOctets(t *testing.T) { // P7.5
	with := numbered(5)
	var l []api.Term
	var sym, oct []api.Value
	for n, b := range with {
		var v, w api.Value
		v, l, _ = value.Atom(l, true, n, b)
		w, _, _ = value.Atom(nil, false, n, b)
		sym, oct = append(sym, v), append(oct, w)
	}
	at := uint64(1) // steps that look like chance, and are the same each time
	for i := range 600 {
		at = at*6364136223846793005 + 1442695040888963407
		a, b := int(at>>33)%len(sym), int(at>>13&0xfffff)%len(sym)
		v, behind, e := value.Part(l, sym[a], i%3)
		w, _, f := value.Part(nil, oct[a], i%3)
		if i%4 == 3 {
			v, behind, e = value.Wrap(l, sym[a], sym[b])
			w, _, f = value.Wrap(nil, oct[a], oct[b])
		}
		if e != f {
			t.Errorf("step %d: %d by terms, %d by octets", i, e, f)
		}
		if e == api.OK {
			l, sym, oct = behind, append(sym, v), append(oct, w)
		}
	}
	if len(l) < 100 {
		t.Errorf("only %d terms were made", len(l))
	}
	for i := range sym {
		stands(t, l, sym[i], oct[i], with)
	}
}

// filled is a list with room behind it, and terms in that.
func filled(l []api.Term) []api.Term {
	return append(slices.Clone(l), atom(900), atom(901), atom(902))[:len(l)]
}

func TestWhatIsHandedInStays(t *testing.T) { // R2
	l, with := filled(some()), numbered(9)
	whole := slices.Clone(l[:len(l)+3])
	for i := range l {
		value.Check(l, place(i))
		for p := range 3 {
			value.Part(l, place(i), p)
			value.Part(l, block(1, 2), p)
		}
		for k := range l {
			value.Wrap(l, place(i), place(k))
			value.Unwrap(l, place(i), place(k))
		}
		value.Eval(l, i, with)
		value.Atom(l, true, i, api.Block{})
		value.Atom(l, false, i, api.Block{})
	}
	value.Wrap(l, block(1, 2), block(3, 4))
	if !slices.Equal(l[:len(l)+3], whole) {
		t.Errorf("terms, or what is behind them, are now %v", l[:len(l)+3])
	}
	if !slices.Equal(with, numbered(9)) {
		t.Errorf("blocks are now %v", with)
	}
}

func TestWhatIsToldIsNew(t *testing.T) { // R2
	for name, call := range map[string]func(l []api.Term) (api.Value, []api.Term, api.Errno){
		"Atom, made":      func(l []api.Term) (api.Value, []api.Term, api.Errno) { return value.Atom(l, true, 70, api.Block{}) },
		"Atom, there":     func(l []api.Term) (api.Value, []api.Term, api.Errno) { return value.Atom(l, true, 7, api.Block{}) },
		"Atom, by octets": func(l []api.Term) (api.Value, []api.Term, api.Errno) { return value.Atom(l, false, 7, api.Block{1}) },
		"Part, made":      func(l []api.Term) (api.Value, []api.Term, api.Errno) { return value.Part(l, place(2), 0) },
		"Part, there":     func(l []api.Term) (api.Value, []api.Term, api.Errno) { return value.Part(l, place(0), 0) },
		"Part, by octets": func(l []api.Term) (api.Value, []api.Term, api.Errno) { return value.Part(l, block(1, 2), 0) },
		"Wrap, made":      func(l []api.Term) (api.Value, []api.Term, api.Errno) { return value.Wrap(l, place(3), place(3)) },
		"Wrap, there":     func(l []api.Term) (api.Value, []api.Term, api.Errno) { return value.Wrap(l, place(2), place(3)) },
		"Wrap, by octets": func(l []api.Term) (api.Value, []api.Term, api.Errno) { return value.Wrap(l, block(1, 2), block(3, 4)) },
	} {
		l := filled(some())
		v, made, e := call(l)
		want := slices.Clone(made)
		_, second, _ := call(l)
		for i := range l[:len(l)+3] { // whoever handed them in writes into them
			l[:len(l)+3][i] = atom(500 + i)
		}
		for i := range second {
			second[i] = atom(600 + i)
		}
		if e != api.OK || !slices.Equal(made, want) {
			t.Errorf("%s: %v, %d, and now %v", name, v, e, made)
		}
		for i := range made { // and so does whoever was told them
			made[i] = atom(700 + i)
		}
		if l[0] != atom(500) || second[0] != atom(600) {
			t.Errorf("%s: what is told is what was handed in, or was told ahead of it", name)
		}
	}
}
