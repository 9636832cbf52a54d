package term_test

import (
	"math"
	"slices"
	"strconv"
	"strings"
	"testing"

	"medlar/api"
	"medlar/term"
)

func atom(n int) api.Term    { return api.Term{Kind: api.AtomT, A: n} }
func left(a int) api.Term    { return api.Term{Kind: api.LeftT, A: a} }
func right(a int) api.Term   { return api.Term{Kind: api.RightT, A: a} }
func key(a int) api.Term     { return api.Term{Kind: api.KeyT, A: a} }
func wrap(a, b int) api.Term { return api.Term{Kind: api.WrapT, A: a, B: b} }

// some are terms that may be, of all kinds, some of them made of what others are made of too.
func some() []api.Term {
	return []api.Term{
		atom(7), left(0), atom(12), key(1), wrap(3, 2), right(2), // K(L(a7)), W(K(L(a7)),a12), R(a12)
		atom(0), atom(api.MaxAtom), wrap(0, 0), wrap(4, 8), wrap(2, 3), left(9), key(6), right(1),
	}
}

// someTexts are the texts of some, written by hand.
var someTexts = []string{
	"a7", "L(a7)", "a12", "K(L(a7))", "W(K(L(a7)),a12)", "R(a12)",
	"a0", "a1048576", "W(a7,a7)", "W(W(K(L(a7)),a12),W(a7,a7))", "W(a12,K(L(a7)))", "L(W(W(K(L(a7)),a12),W(a7,a7)))", "K(a0)", "R(L(a7))",
}

// atoms are n of them, rising from one on.
func atoms(n, from int) []api.Term {
	l := make([]api.Term, n)
	for i := range l {
		l[i] = atom(from + i)
	}
	return l
}

// chain is an atom, and n terms, each of a kind, and made of the one ahead.
func chain(n, a, kind int) []api.Term {
	l := []api.Term{atom(a)}
	for i := range n {
		l = append(l, api.Term{Kind: kind, A: i})
	}
	return l
}

// doubled is an atom, and n wrappings, each of the one ahead with itself.
func doubled(n int) []api.Term {
	l := []api.Term{atom(0)}
	for i := range n {
		l = append(l, wrap(i, i))
	}
	return l
}

var far = []int{math.MinInt, math.MinInt + 1, -1 << 32, -2, -1, 1 << 20, 1<<20 + 1, 1 << 32, math.MaxInt - 1, math.MaxInt}

// badBehind are terms none of which may be at place n.
func badBehind(n int) []api.Term {
	l := []api.Term{{}, {A: 1}, {Kind: 6}, {Kind: -1}, {Kind: 7, A: 0}, {Kind: math.MinInt}, {Kind: math.MaxInt}, {Kind: 1 << 32}, {Kind: 1<<32 + 1}}
	l = append(l, atom(-1), atom(api.MaxAtom+1), atom(math.MinInt), atom(math.MaxInt), atom(1<<32))
	for _, b := range append([]int{1, n, n - 1}, far...) {
		if b != 0 {
			l = append(l, api.Term{Kind: api.AtomT, A: 3, B: b})
		}
	}
	for _, kind := range []int{api.LeftT, api.RightT, api.KeyT} {
		for _, a := range append([]int{n, n + 1}, far...) {
			l = append(l, api.Term{Kind: kind, A: a})
		}
		for _, b := range append([]int{1, n}, far...) {
			if n > 0 && b != 0 {
				l = append(l, api.Term{Kind: kind, A: n - 1, B: b})
			}
		}
	}
	for _, a := range append([]int{n, n + 1}, far...) {
		l = append(l, wrap(a, a), wrap(a, 0), wrap(0, a))
	}
	return l
}

// badLists are lists of terms that may not be, each with what is wrong with it.
func badLists() map[string][]api.Term {
	full := atoms(api.MaxTerms, 0)
	lastTwice := slices.Clone(full)
	lastTwice[api.MaxTerms-1] = atom(0)
	m := map[string][]api.Term{
		"no kind":                  {{}},
		"no kind, behind others":   append(some(), api.Term{}),
		"kind 6":                   {atom(0), {Kind: 6}},
		"an atom below 0":          {atom(-1)},
		"an atom too great":        {atom(api.MaxAtom + 1)},
		"an atom with B":           {{Kind: api.AtomT, B: 1}},
		"made of itself":           {left(0)},
		"made of one behind":       {left(1), atom(0)},
		"a place below 0":          {atom(0), key(-1)},
		"a part with B":            {atom(0), {Kind: api.RightT, B: 1}},
		"wraps itself":             {atom(0), wrap(0, 1)},
		"wrapped with itself":      {atom(0), wrap(1, 0)},
		"wrapped, below 0":         {atom(0), wrap(0, -1)},
		"an atom twice":            {atom(5), atom(5)},
		"a part twice":             {atom(5), left(0), key(0), left(0)},
		"a wrapping twice":         {atom(5), atom(6), wrap(0, 1), wrap(1, 0), wrap(0, 1)},
		"the first one bad":        append([]api.Term{{Kind: 9}}, atoms(40, 0)...),
		"one in the middle bad":    slices.Concat(atoms(20, 0), []api.Term{left(20)}, atoms(20, 20)),
		"one more than MaxTerms":   append(slices.Clone(full), left(0)),
		"a great many":             atoms(3*api.MaxTerms, 0),
		"many without kinds":       make([]api.Term, api.MaxTerms+1),
		"full, and the last twice": lastTwice,
	}
	for _, t := range badBehind(3) {
		name := "3 atoms, and " + strconv.Itoa(t.Kind) + " " + strconv.Itoa(t.A) + " " + strconv.Itoa(t.B)
		m[name] = append(atoms(3, 0), t)
	}
	return m
}

func TestTermsThatMayBe(t *testing.T) { // P5.1
	mixed := chain(api.MaxTerms/2, 3, api.KeyT)
	for i := range api.MaxTerms - len(mixed) {
		mixed = append(mixed, wrap(len(mixed)-1, i))
	}
	for name, l := range map[string][]api.Term{
		"none":                   nil,
		"none, not nil":          {},
		"one":                    {atom(0)},
		"the greatest atom":      {atom(api.MaxAtom)},
		"both ends":              {atom(0), atom(api.MaxAtom), atom(1), atom(api.MaxAtom - 1)},
		"parts of one":           {atom(0), left(0), right(0), key(0)},
		"the place just ahead":   {atom(0), left(0), right(1), key(2), wrap(3, 3)},
		"the first place":        {atom(9), atom(8), left(0), right(0), key(0), wrap(0, 0)},
		"wrapped with itself":    {atom(0), wrap(0, 0)},
		"the other way round":    {atom(0), atom(1), wrap(0, 1), wrap(1, 0)},
		"numbers alike":          {atom(1), atom(0), left(0), right(0), key(0), wrap(0, 0), left(1), right(1), key(1), wrap(1, 0)},
		"some":                   some(),
		"MaxTerms":               atoms(api.MaxTerms, 0),
		"MaxTerms, the last":     atoms(api.MaxTerms, api.MaxAtom-api.MaxTerms+1),
		"MaxTerms, a chain":      chain(api.MaxTerms-1, 0, api.LeftT),
		"MaxTerms, doubled":      doubled(api.MaxTerms - 1),
		"MaxTerms, of all sorts": mixed,
		"one less than MaxTerms": atoms(api.MaxTerms-1, 0),
	} {
		if e := term.Check(l); e != api.OK {
			t.Errorf("%s: %d", name, e)
		}
	}
}

func TestListsThatMayNotBe(t *testing.T) { // P5.1, P5.2, P5.3, R1
	for name, l := range badLists() {
		if e := term.Check(l); e != api.ErrArg {
			t.Errorf("%s: Check = %d", name, e)
		}
		for _, x := range []api.Term{atom(1), l[0], {}} {
			if i, e := term.Find(l, x); i != 0 || e != api.ErrArg {
				t.Errorf("%s: Find = %d, %d", name, i, e)
			}
			if i, next, e := term.Make(l, x); i != 0 || len(next) != 0 || e != api.ErrArg {
				t.Errorf("%s: Make = %d, %d terms, %d", name, i, len(next), e)
			}
		}
		for _, i := range []int{0, len(l) - 1, len(l), -1} {
			refusedPlace(t, l, i)
		}
	}
}

// refusedPlace tells of a call with a place that is not ErrArg, and nothing.
func refusedPlace(t *testing.T, l []api.Term, i int) {
	t.Helper()
	if s, e := term.Text(l, i); s != "" || e != api.ErrArg {
		t.Errorf("Text of %d terms, %d = %q, %d", len(l), i, s, e)
	}
	if d, e := term.Deep(l, i); d != 0 || e != api.ErrArg {
		t.Errorf("Deep of %d terms, %d = %d, %d", len(l), i, d, e)
	}
	if in, e := term.Within(l, i); len(in) != 0 || e != api.ErrArg {
		t.Errorf("Within of %d terms, %d = %d places, %d", len(l), i, len(in), e)
	}
}

func TestPlacesThatThereAreNot(t *testing.T) { // P5.3
	for _, l := range [][]api.Term{nil, {}, {atom(0)}, some(), some()[:3], atoms(api.MaxTerms, 0)} {
		for _, i := range append([]int{len(l), len(l) + 1}, far...) {
			refusedPlace(t, l, i)
		}
	}
	if in, e := term.Within(some()[:3], 2); !slices.Equal(in, []int{2}) || e != api.OK {
		t.Errorf("the last place of 3: %v, %d", in, e)
	}
}

// eachSmall hands in each list of at most n terms out of a pool.
func eachSmall(pool []api.Term, n int, do func(l []api.Term)) {
	var l []api.Term
	var more func()
	more = func() {
		do(l)
		for _, t := range pool {
			if len(l) < n {
				l = append(l, t)
				more()
				l = l[:len(l)-1]
			}
		}
	}
	more()
}

// pool are all terms of some kinds, whose A and B go from one to another.
func pool(kinds []int, from, to int) []api.Term {
	var l []api.Term
	for _, kind := range kinds {
		for a := from; a <= to; a++ {
			for b := from; b <= to; b++ {
				l = append(l, api.Term{Kind: kind, A: a, B: b})
			}
		}
	}
	return l
}

// isTerm is the chapter's word of a term that may be at place i, kind by kind, written as a text is read.
func isTerm(t api.Term, i int) bool {
	a, b := t.A >= 0 && t.A < i, t.B >= 0 && t.B < i
	return t.Kind == 1 && t.A >= 0 && t.A <= 1048576 && t.B == 0 ||
		t.Kind == 2 && a && t.B == 0 || t.Kind == 3 && a && t.B == 0 || t.Kind == 4 && a && t.B == 0 ||
		t.Kind == 5 && a && b
}

func areTerms(l []api.Term) bool {
	for i, t := range l {
		if !isTerm(t, i) || slices.Contains(l[:i], t) {
			return false
		}
	}
	return true
}

func TestEachSmallListIsCheckedTermByTerm(t *testing.T) { // P5.1
	do := func(l []api.Term) {
		want := api.ErrArg
		if areTerms(l) {
			want = api.OK
		}
		if e := term.Check(l); e != want {
			t.Fatalf("Check(%v) = %d", l, e)
		}
	}
	eachSmall(pool([]int{-1, 0, 1, 2, 3, 4, 5, 6}, -1, 2), 2, do)
	eachSmall(pool([]int{1, 2, 4, 5}, -1, 2), 3, do)
	eachSmall(pool([]int{1, 3, 5}, 0, 1), 5, do)
}

func TestEachSmallListIsFoundInAndPutBehind(t *testing.T) { // P5.1, P5.2
	terms := pool([]int{0, 1, 2, 3, 4, 5, 6}, -1, 2)
	eachSmall(pool([]int{1, 4, 5}, 0, 1), 3, func(l []api.Term) {
		if !areTerms(l) {
			return
		}
		for _, x := range terms {
			at, want, made := slices.Index(l, x), api.OK, l
			behind := append(slices.Clone(l), x)
			i, next, e := term.Make(l, x)
			found, f := term.Find(l, x)
			switch {
			case !isTerm(x, len(l)):
				at, want, made = 0, api.ErrArg, nil
				if f != api.ErrArg || found != 0 {
					t.Fatalf("Find(%v, %v) = %d, %d", l, x, found, f)
				}
			case at < 0:
				at, made = len(l), behind
				if f != api.ErrNone || found != 0 {
					t.Fatalf("Find(%v, %v) = %d, %d", l, x, found, f)
				}
			default:
				if f != api.OK || found != at {
					t.Fatalf("Find(%v, %v) = %d, %d", l, x, found, f)
				}
			}
			if i != at || e != want || !slices.Equal(next, made) {
				t.Fatalf("Make(%v, %v) = %d, %v, %d", l, x, i, next, e)
			}
		}
	})
}

func TestFind(t *testing.T) { // P5.1
	l := some()
	for i, x := range l {
		if at, e := term.Find(l, x); at != i || e != api.OK {
			t.Errorf("Find(%v) = %d, %d", x, at, e)
		}
	}
	for _, x := range []api.Term{atom(1), atom(8), right(0), left(2), wrap(2, 2), wrap(8, 4), left(13), key(13), wrap(13, 13), wrap(0, 13)} {
		if at, e := term.Find(l, x); at != 0 || e != api.ErrNone {
			t.Errorf("Find(%v) = %d, %d", x, at, e)
		}
	}
	if at, e := term.Find(nil, atom(0)); at != 0 || e != api.ErrNone {
		t.Errorf("in none: %d, %d", at, e)
	}
	full := atoms(api.MaxTerms, 0)
	for i, x := range full {
		if i%9973 != 0 && i != api.MaxTerms-1 {
			continue
		}
		if at, e := term.Find(full, x); at != i || e != api.OK {
			t.Errorf("of MaxTerms, Find(%v) = %d, %d", x, at, e)
		}
	}
	// there is no room for these, yet they may be behind all
	for _, x := range []api.Term{left(api.MaxTerms - 1), atom(api.MaxTerms), wrap(api.MaxTerms-1, 0)} {
		if at, e := term.Find(full, x); at != 0 || e != api.ErrNone {
			t.Errorf("of MaxTerms, Find(%v) = %d, %d", x, at, e)
		}
	}
}

func TestTermsThatMayNotBeBehindAll(t *testing.T) { // P5.1, P5.2
	for _, l := range [][]api.Term{nil, {atom(0)}, {atom(4), left(0)}, some()} {
		for _, x := range badBehind(len(l)) {
			if i, e := term.Find(l, x); i != 0 || e != api.ErrArg {
				t.Errorf("in %d terms, Find(%v) = %d, %d", len(l), x, i, e)
			}
			if i, next, e := term.Make(l, x); i != 0 || len(next) != 0 || e != api.ErrArg {
				t.Errorf("behind %d terms, Make(%v) = %d, %d terms, %d", len(l), x, i, len(next), e)
			}
		}
	}
}

func TestMakePutsBehind(t *testing.T) { // P5.2
	var l []api.Term
	for i, x := range some() {
		at, next, e := term.Make(l, x)
		if at != i || e != api.OK || !slices.Equal(next, some()[:i+1]) {
			t.Fatalf("Make(%v, %v) = %d, %v, %d", l, x, at, next, e)
		}
		l = next
	}
	for i, x := range some() {
		at, next, e := term.Make(l, x)
		if at != i || e != api.OK || !slices.Equal(next, some()) {
			t.Errorf("made again, %v: %d, %v, %d", x, at, next, e)
		}
	}
	for _, x := range []api.Term{atom(0), atom(api.MaxAtom)} {
		if at, next, e := term.Make(nil, x); at != 0 || e != api.OK || !slices.Equal(next, []api.Term{x}) {
			t.Errorf("the first one, %v: %d, %v, %d", x, at, next, e)
		}
	}
}

func TestMakeWhenThereIsNoRoom(t *testing.T) { // P5.2
	last := api.MaxTerms - 1
	for _, x := range []api.Term{atom(last), left(last - 1), right(0), key(last - 1), wrap(last-1, last-1), wrap(0, last-1)} {
		at, full, e := term.Make(atoms(last, 0), x)
		if at != last || len(full) != api.MaxTerms || e != api.OK || full[last] != x || term.Check(full) != api.OK {
			t.Fatalf("the last one, %v: %d, %d terms, %d", x, at, len(full), e)
		}
		for _, i := range []int{0, 1, last - 1, last} {
			at, next, e := term.Make(full, full[i])
			if at != i || !slices.Equal(next, full) || e != api.OK {
				t.Errorf("one that is there, %d: %d, %d terms, %d", i, at, len(next), e)
			}
		}
		for _, y := range []api.Term{atom(api.MaxAtom), left(last), wrap(last, last)} {
			if at, next, e := term.Make(full, y); at != 0 || len(next) != 0 || e != api.ErrFull {
				t.Errorf("one too many, %v: %d, %d terms, %d", y, at, len(next), e)
			}
		}
		for _, y := range []api.Term{{}, left(last + 1), wrap(0, last+1), atom(-1)} {
			if at, e := term.Find(full, y); at != 0 || e != api.ErrArg {
				t.Errorf("one that may not be, %v: found at %d, %d", y, at, e)
			}
			if at, next, e := term.Make(full, y); at != 0 || len(next) != 0 || e != api.ErrArg {
				t.Errorf("one that may not be, %v: %d, %d terms, %d", y, at, len(next), e)
			}
		}
	}
}

func TestSame(t *testing.T) { // P5.1
	if !term.Same(nil, nil) || !term.Same(nil, []api.Term{}) || !term.Same([]api.Term{}, nil) {
		t.Error("none and none are not the same")
	}
	if !term.Same(some(), some()) {
		t.Error("some and some are not the same")
	}
	full := atoms(api.MaxTerms, 0)
	if !term.Same(full, slices.Clone(full)) || term.Same(full, atoms(api.MaxTerms, 1)) {
		t.Error("MaxTerms of them: not so")
	}
	for i := range some() {
		if term.Same(some(), some()[:i]) || term.Same(some()[:i], some()) || term.Same(some(), some()[i+1:]) {
			t.Errorf("some, and %d of them, are the same", i)
		}
		for _, other := range []api.Term{{Kind: 1}, {A: 1}, {B: 1}, {Kind: 1 << 32}, {A: 1 << 32}, {B: 1 << 32}} {
			l := some()
			l[i].Kind += other.Kind
			l[i].A += other.A
			l[i].B += other.B
			if term.Same(some(), l) || term.Same(l, some()) {
				t.Errorf("some, and another one at %d, are the same", i)
			}
			if !term.Same(l, slices.Clone(l)) { // whether they may be is not asked
				t.Errorf("%v is not the same as itself", l)
			}
		}
	}
	if term.Same([]api.Term{atom(0), atom(1)}, []api.Term{atom(1), atom(0)}) {
		t.Error("another order is the same")
	}
	if term.Same([]api.Term{{}}, nil) || term.Same(nil, []api.Term{{}}) {
		t.Error("a zero term and none are the same")
	}
}

func TestTextsOfSome(t *testing.T) { // P5.3
	for i, want := range someTexts {
		if s, e := term.Text(some(), i); s != want || e != api.OK {
			t.Errorf("Text(%d) = %q, %d", i, s, e)
		}
		if s, e := term.Text(some()[:i+1], i); s != want || e != api.OK {
			t.Errorf("Text(%d), with nothing behind = %q, %d", i, s, e)
		}
	}
	for _, n := range []int{0, 1, 9, 10, 99, 100, 65535, 65536, 999999, 1000000, api.MaxAtom - 1, api.MaxAtom} {
		if s, e := term.Text([]api.Term{atom(n)}, 0); s != "a"+strconv.Itoa(n) || e != api.OK {
			t.Errorf("Text of atom %d = %q, %d", n, s, e)
		}
	}
}

// around is how far from MaxText the lengths of texts at the edge go.
const around = 6

func TestTextsOfPartsAtTheEdge(t *testing.T) { // P5.3
	for kind, begin := range map[int]string{api.LeftT: "L(", api.RightT: "R(", api.KeyT: "K("} {
		seen := map[int]int{}
		for _, a := range []int{8, 80, 800, 8000, 80000, 800000} {
			own := "a" + strconv.Itoa(a)
			n := (api.MaxText - around - len(own)) / 3
			for ; 3*n+len(own) <= api.MaxText+around; n++ {
				want := strings.Repeat(begin, n) + own + strings.Repeat(")", n)
				checkLong(t, chain(n, a, kind), n, want)
				seen[len(want)]++
			}
		}
		for k := api.MaxText - around; k <= api.MaxText+around; k++ {
			if seen[k] == 0 {
				t.Errorf("no text of %d octets was asked for", k)
			}
		}
	}
}

// checkLong holds the text of place i against one of any length.
func checkLong(t *testing.T, l []api.Term, i int, want string) {
	t.Helper()
	s, e := term.Text(l, i)
	if len(want) > api.MaxText {
		if s != "" || e != api.ErrLong {
			t.Errorf("of %d octets: %d octets, %d", len(want), len(s), e)
		}
	} else if s != want || e != api.OK {
		t.Errorf("of %d octets: %d octets, %d", len(want), len(s), e)
	}
}

func TestTextsOfWrappingsAtTheEdge(t *testing.T) { // P5.3
	for _, a := range []int{8, 80, 800} {
		for n := 10919; n <= 10923; n++ { // half of MaxText each
			l := chain(n, a, api.KeyT)
			own := "a" + strconv.Itoa(a)
			deep := strings.Repeat("K(", n) + own + strings.Repeat(")", n)
			l = append(l, atom(9), wrap(n, n), wrap(n, n-1), wrap(n+2, n+1), wrap(n+1, n+2), key(n+2))
			less := deep[2 : len(deep)-1]
			both := "W(" + deep + "," + deep + ")"
			checkLong(t, l, n+2, both)
			checkLong(t, l, n+3, "W("+deep+","+less+")")
			checkLong(t, l, n+4, "W("+both+",a9)")
			checkLong(t, l, n+5, "W(a9,"+both+")")
			checkLong(t, l, n+6, "K("+both+")")
		}
	}
	for n := 21839; n <= 21845; n++ { // nearly all in one of the two
		l := chain(n, 800, api.LeftT)
		deep := strings.Repeat("L(", n) + "a800" + strings.Repeat(")", n)
		for _, b := range []int{9, 99, 999, 9999, 99999, 999999} {
			own := "a" + strconv.Itoa(b)
			two := append(slices.Clone(l), atom(b), wrap(n, n+1), wrap(n+1, n))
			checkLong(t, two, n+2, "W("+deep+","+own+")")
			checkLong(t, two, n+3, "W("+own+","+deep+")")
		}
	}
}

func TestTextsThatAreDoubled(t *testing.T) { // P5.3
	l := doubled(api.MaxTerms - 1)
	want := "a0"
	for i := range 14 {
		checkLong(t, l, i, want)
		want = "W(" + want + "," + want + ")"
	}
	for _, i := range []int{14, 15, 20, 31, 32, 62, 63, 64, 65, 1000, api.MaxTerms - 1} {
		if s, e := term.Text(l, i); s != "" || e != api.ErrLong {
			t.Errorf("Text(%d) = %d octets, %d", i, len(s), e)
		}
	}
	for _, kind := range []int{api.LeftT, api.RightT, api.KeyT} {
		deep := chain(api.MaxTerms-1, 0, kind)
		if s, e := term.Text(deep, api.MaxTerms-1); s != "" || e != api.ErrLong {
			t.Errorf("a chain of MaxTerms: %d octets, %d", len(s), e)
		}
	}
}

func TestTextsBesideOnesThatAreTooLong(t *testing.T) { // P5.3
	l := append(doubled(40), atom(5), wrap(0, 41), wrap(40, 41), wrap(41, 40), left(40))
	for i, want := range map[int]string{41: "a5", 42: "W(a0,a5)", 2: "W(W(a0,a0),W(a0,a0))"} {
		checkLong(t, l, i, want)
	}
	for _, i := range []int{40, 43, 44, 45} {
		if s, e := term.Text(l, i); s != "" || e != api.ErrLong {
			t.Errorf("Text(%d) = %d octets, %d", i, len(s), e)
		}
	}
}

func TestDeepAndWithinOfSome(t *testing.T) { // P5.3
	deep := []int{0, 1, 0, 2, 3, 1, 0, 0, 1, 4, 3, 5, 1, 2}
	within := [][]int{{0}, {0, 1}, {2}, {0, 1, 3}, {0, 1, 2, 3, 4}, {2, 5}, {6}, {7}, {0, 8}, {0, 1, 2, 3, 4, 8, 9}, {0, 1, 2, 3, 10}, {0, 1, 2, 3, 4, 8, 9, 11}, {6, 12}, {0, 1, 13}}
	for i := range some() {
		for _, l := range [][]api.Term{some(), some()[:i+1]} {
			if d, e := term.Deep(l, i); d != deep[i] || e != api.OK {
				t.Errorf("Deep(%d) = %d, %d", i, d, e)
			}
			if in, e := term.Within(l, i); !slices.Equal(in, within[i]) || e != api.OK {
				t.Errorf("Within(%d) = %v, %d", i, in, e)
			}
		}
	}
}

// look works out a term's text, how deep it is, and all places within it, straight from the chapter's words.
func look(l []api.Term, i int) (string, int, map[int]int) {
	within := map[int]int{i: 1}
	if l[i].Kind == api.AtomT {
		return "a" + strconv.Itoa(l[i].A), 0, within
	}
	text, deep, in := look(l, l[i].A)
	for k := range in {
		within[k] = 1
	}
	if l[i].Kind == api.WrapT {
		behind, d, in := look(l, l[i].B)
		for k := range in {
			within[k] = 1
		}
		text, deep = text+","+behind, max(deep, d)
	}
	return " aLRKW"[l[i].Kind:][:1] + "(" + text + ")", deep + 1, within
}

func TestEachPlaceOfSmallLists(t *testing.T) { // P5.3
	eachSmall(pool([]int{1, 2, 3, 4, 5}, 0, 2), 4, func(l []api.Term) {
		if !areTerms(l) {
			return
		}
		for i := range l {
			text, deep, within := look(l, i)
			s, e := term.Text(l, i)
			d, f := term.Deep(l, i)
			in, g := term.Within(l, i)
			if s != text || d != deep || e != api.OK || f != api.OK || g != api.OK {
				t.Fatalf("%v, %d: %q, %d, %d, %d, %d", l, i, s, d, e, f, g)
			}
			if len(in) != len(within) || !slices.IsSorted(in) {
				t.Fatalf("Within(%v, %d) = %v", l, i, in)
			}
			for k := range within {
				if !slices.Contains(in, k) {
					t.Fatalf("Within(%v, %d) = %v", l, i, in)
				}
			}
		}
	})
}

func TestDeepAndWithinOfMany(t *testing.T) { // P5.3
	last := api.MaxTerms - 1
	for name, l := range map[string][]api.Term{"a chain": chain(last, 3, api.RightT), "doubled": doubled(last)} {
		for _, i := range []int{0, 1, 64, 40000, last} {
			if d, e := term.Deep(l, i); d != i || e != api.OK {
				t.Errorf("%s: Deep(%d) = %d, %d", name, i, d, e)
			}
			in, e := term.Within(l, i)
			if len(in) != i+1 || in[0] != 0 || in[i] != i || !slices.IsSorted(in) || e != api.OK {
				t.Errorf("%s: Within(%d) = %d places, %d", name, i, len(in), e)
			}
		}
	}
	l := append(atoms(last, 0), wrap(last-1, 40000))
	if d, e := term.Deep(l, last); d != 1 || e != api.OK {
		t.Errorf("Deep = %d, %d", d, e)
	}
	if in, e := term.Within(l, last); !slices.Equal(in, []int{40000, last - 1, last}) || e != api.OK {
		t.Errorf("Within = %v, %d", in, e)
	}
}

// read makes the terms of a text, those that it is made of first, and tells the place of its term, and what is behind it.
func read(t *testing.T, l []api.Term, s string) (int, []api.Term, string) {
	t.Helper()
	x := api.Term{Kind: strings.IndexByte(" aLRKW", s[0])}
	if x.Kind == api.AtomT {
		end := 1
		for end < len(s) && s[end] >= '0' && s[end] <= '9' {
			end++
		}
		x.A, _ = strconv.Atoi(s[1:end])
		s = s[end:]
	} else {
		x.A, l, s = read(t, l, s[2:])
		if x.Kind == api.WrapT {
			x.B, l, s = read(t, l, s[1:])
		}
		s = s[1:]
	}
	at, l, e := term.Make(l, x)
	if e != api.OK {
		t.Fatalf("Make(%v, %v): %d", l, x, e)
	}
	return at, l, s
}

func TestOneTextIsOneTerm(t *testing.T) { // P5.4
	l := []api.Term{atom(0), atom(1), atom(10), atom(11), atom(110)}
	for len(l) < 300 { // all that is made of those ahead, in their order
		var more []api.Term
		for a := range l {
			more = append(more, left(a), right(a), key(a))
			for b := range l {
				more = append(more, wrap(a, b))
			}
		}
		for _, x := range more {
			if len(l) < 300 {
				_, l, _ = term.Make(l, x)
			}
		}
	}
	at := map[string]int{}
	for i := range l {
		s, e := term.Text(l, i)
		if other, is := at[s]; is || e != api.OK {
			t.Fatalf("%d and %d have the text %q, %d", i, other, s, e)
		}
		at[s] = i
		k, next, behind := read(t, l, s)
		if k != i || behind != "" || !term.Same(next, l) {
			t.Fatalf("%q, read again, is at %d of %d, not at %d", s, k, len(next), i)
		}
	}
}

func TestTextsReadFromNothing(t *testing.T) { // P5.4
	for _, want := range someTexts {
		i, l, _ := read(t, nil, want)
		again, next, _ := read(t, l, want)
		if s, e := term.Text(l, i); s != want || e != api.OK || again != i || !term.Same(next, l) {
			t.Errorf("%q: %q at %d, %d; again at %d of %d", want, s, i, e, again, len(next))
		}
		if in, e := term.Within(l, i); len(in) != len(l) || e != api.OK {
			t.Errorf("%q: made of %v of %d", want, in, len(l))
		}
	}
}

func TestWhatIsMadeTwiceIsMadeOnce(t *testing.T) { // P5.4
	for _, x := range []api.Term{atom(1), atom(7), left(0), right(0), left(13), wrap(13, 13), wrap(0, 0), wrap(0, 13)} {
		i, once, e := term.Make(some(), x)
		k, twice, f := term.Make(once, x)
		if i != k || !slices.Equal(once, twice) || e != api.OK || f != api.OK {
			t.Errorf("%v: at %d of %d, and at %d of %d", x, i, len(once), k, len(twice))
		}
		if at, e := term.Find(once, x); at != i || e != api.OK || once[i] != x {
			t.Errorf("%v: made at %d, found at %d, %d", x, i, at, e)
		}
	}
}

func TestTermsStayAsTheyWere(t *testing.T) { // R2
	behind := func() []api.Term { return append(some(), atoms(20, 100)...) }
	for n := range len(some()) + 1 {
		for _, x := range []api.Term{atom(7), atom(5), wrap(0, 0), {}, left(n)} {
			l := behind()
			handed := l[:n] // with room behind, so that what is put behind may not be put into it
			term.Check(handed)
			term.Find(handed, x)
			term.Make(handed, x)
			term.Same(handed, l)
			for i := -1; i <= n; i++ {
				term.Text(handed, i)
				term.Deep(handed, i)
				term.Within(handed, i)
			}
			if !slices.Equal(l, behind()) {
				t.Errorf("%d terms, %v: what was handed in, or what is behind it, was changed", n, x)
			}
		}
	}
}

func TestWhatIsMadeIsNew(t *testing.T) { // R2
	for _, x := range []api.Term{atom(5), some()[0], some()[13]} {
		l := append(make([]api.Term, 0, 64), some()...)
		_, first, _ := term.Make(l, x)
		_, second, _ := term.Make(l, x)
		want := slices.Clone(first)
		for i := range l[:cap(l)] {
			l[:cap(l)][i] = atom(99)
		}
		if !slices.Equal(first, want) || !slices.Equal(second, want) {
			t.Errorf("%v: what was made is now %v, %v", x, first, second)
		}
		copy(l, some())
		for i := range first {
			first[i] = atom(98)
		}
		if !slices.Equal(second, want) || !slices.Equal(l, some()) {
			t.Errorf("%v: what was made, or handed in, is now %v, %v", x, second, l)
		}
	}
	_, one, _ := term.Make(some(), atom(5))
	_, two, _ := term.Make(one, atom(6))
	_, three, _ := term.Make(one, atom(8))
	if two[14] != atom(5) || two[15] != atom(6) || three[15] != atom(8) {
		t.Errorf("two made of one are %v, %v", two, three)
	}
}

func TestPlacesToldAreNew(t *testing.T) { // R2
	first, _ := term.Within(some(), 9)
	second, _ := term.Within(some(), 9)
	for i := range first {
		first[i] = -5
	}
	third, _ := term.Within(some(), 9)
	want := []int{0, 1, 2, 3, 4, 8, 9}
	if !slices.Equal(second, want) || !slices.Equal(third, want) {
		t.Errorf("places told are now %v, %v", second, third)
	}
}
