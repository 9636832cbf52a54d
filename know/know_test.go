package know_test

import (
	"math"
	"slices"
	"testing"

	"medlar/api"
	"medlar/know"
	"medlar/term"
)

func atom(n int) api.Term    { return api.Term{Kind: api.AtomT, A: n} }
func left(a int) api.Term    { return api.Term{Kind: api.LeftT, A: a} }
func right(a int) api.Term   { return api.Term{Kind: api.RightT, A: a} }
func key(a int) api.Term     { return api.Term{Kind: api.KeyT, A: a} }
func wrap(a, b int) api.Term { return api.Term{Kind: api.WrapT, A: a, B: b} }

// atoms are n of them, from 0 on.
func atoms(n int) []api.Term {
	l := make([]api.Term, n)
	for i := range l {
		l[i] = atom(i)
	}
	return l
}

// parts are an atom, and n terms of a kind, each a part of the one ahead.
func parts(n, kind int) []api.Term {
	l := []api.Term{atom(0)}
	for i := range n {
		l = append(l, api.Term{Kind: kind, A: i})
	}
	return l
}

// run is all numbers from one up to, but without, another one.
func run(from, to int) []int {
	var l []int
	for i := from; i < to; i++ {
		l = append(l, i)
	}
	return l
}

// backwards is a list the other way round.
func backwards(l []int) []int {
	l = slices.Clone(l)
	slices.Reverse(l)
	return l
}

// follows is the chapter's word 'at once': it reads the list over and over, kind by kind, with numbers for kinds.
func follows(l []api.Term, from []int, i int) bool {
	has := func(k int) bool { return slices.Contains(from, k) }
	t := l[i]
	if t.Kind == 2 && has(t.A) || t.Kind == 3 && has(t.A) || t.Kind == 4 && has(t.A) {
		return true
	}
	if t.Kind == 5 && has(t.A) && has(t.B) {
		return true
	}
	for k, w := range l {
		if w.Kind == 5 && w.B == i && has(k) && has(w.A) {
			return true
		}
	}
	return false
}

// allOf is what is known, as the chapter's words tell, till nothing more follows.
func allOf(l []api.Term, have []int) []int {
	all := slices.Clone(have)
	for grows := true; grows; {
		grows = false
		for i := range l {
			if !slices.Contains(all, i) && follows(l, all, i) {
				all, grows = append(all, i), true
			}
		}
	}
	slices.Sort(all)
	return slices.Compact(all)
}

func isShut(l []api.Term, set []int) bool {
	for i := range l {
		if follows(l, set, i) && !slices.Contains(set, i) {
			return false
		}
	}
	return true
}

func isChain(l []api.Term, have, steps []int) bool {
	for n, i := range steps {
		ahead := steps[:n]
		if slices.Contains(ahead, i) || !slices.Contains(have, i) && !follows(l, ahead, i) {
			return false
		}
	}
	return true
}

// eachSmall hands in each list of at most n terms that may be, of atoms 0 and 1 and what is made of them.
func eachSmall(n int, do func(l []api.Term)) {
	var more func(l []api.Term)
	more = func(l []api.Term) {
		do(l)
		if len(l) == n {
			return
		}
		next := []api.Term{atom(0), atom(1)}
		for a := range l {
			next = append(next, left(a), right(a), key(a))
			for b := range l {
				next = append(next, wrap(a, b))
			}
		}
		for _, t := range next {
			if !slices.Contains(l, t) {
				more(append(slices.Clone(l), t))
			}
		}
	}
	more(nil)
}

// eachSet hands in each set of places of n.
func eachSet(n int, do func(set []int)) {
	for bits := range 1 << n {
		var set []int
		for i := range n {
			if bits>>i&1 == 1 {
				set = append(set, i)
			}
		}
		do(set)
	}
}

// eachList hands in each list of at most long places of n, one that is there twice among them.
func eachList(n, long int, do func(list []int)) {
	var more func(list []int)
	more = func(list []int) {
		do(list)
		for i := range n {
			if len(list) < long {
				more(append(slices.Clone(list), i))
			}
		}
	}
	more(nil)
}

// hasAll tells whether all of some are in a set.
func hasAll(set, some []int) bool {
	return !slices.ContainsFunc(some, func(i int) bool { return !slices.Contains(set, i) })
}

// holdAll holds what is known of a list against what is to be: All, and of each place Knows and Why.
func holdAll(t *testing.T, l []api.Term, have, want []int) {
	t.Helper()
	if all, e := know.All(l, have); !slices.Equal(all, want) || e != api.OK {
		t.Fatalf("All(%v, %v) = %v, %d, not %v", l, have, all, e, want)
	}
	for i := range l {
		is := slices.Contains(want, i)
		if got, e := know.Knows(l, have, i); got != is || e != api.OK {
			t.Fatalf("Knows(%v, %v, %d) = %v, %d", l, have, i, got, e)
		}
		steps, e := know.Why(l, have, i)
		if !is && (len(steps) != 0 || e != api.ErrNone) {
			t.Fatalf("Why(%v, %v, %d) = %v, %d", l, have, i, steps, e)
		}
		if is && (e != api.OK || len(steps) == 0 || steps[len(steps)-1] != i || !isChain(l, have, steps)) {
			t.Fatalf("Why(%v, %v, %d) = %v, %d", l, have, i, steps, e)
		}
	}
}

func TestEachSmallListIsKnown(t *testing.T) { // P6.1, P6.3
	eachSmall(4, func(l []api.Term) {
		eachSet(len(l), func(have []int) {
			want := allOf(l, have)
			holdAll(t, l, have, want)
			holdAll(t, l, append(backwards(have), have...), want)
		})
	})
}

func TestEachSmallSetIsShutOrNot(t *testing.T) { // P6.2
	eachSmall(4, func(l []api.Term) {
		eachSet(len(l), func(set []int) {
			want := isShut(l, set)
			for _, given := range [][]int{set, backwards(set), append(slices.Clone(set), set...)} {
				if got, e := know.Shut(l, given); got != want || e != api.OK {
					t.Fatalf("Shut(%v, %v) = %v, %d", l, given, got, e)
				}
			}
		})
	})
}

func TestEachSmallListOfStepsIsAChainOrNot(t *testing.T) { // P6.2
	eachSmall(3, func(l []api.Term) {
		eachSet(len(l), func(have []int) {
			eachList(len(l), 4, func(steps []int) {
				if got, e := know.Is(l, have, steps); got != isChain(l, have, steps) || e != api.OK {
					t.Fatalf("Is(%v, %v, %v) = %v, %d", l, have, steps, got, e)
				}
			})
		})
	})
}

// someLists are greater lists, of which what is known takes several ways in turn.
func someLists() [][]api.Term {
	return [][]api.Term{
		{atom(1), atom(2), left(0), right(0), key(2), wrap(4, 1), key(3), wrap(6, 4)},
		{atom(5), atom(6), atom(7), wrap(2, 1), wrap(1, 0), wrap(0, 2)}, // each opens the next one
		{atom(0), wrap(0, 0), wrap(1, 0), wrap(0, 1), wrap(1, 1), wrap(2, 3)},
		{atom(3), left(0), wrap(1, 0), key(2), wrap(3, 2), right(4), wrap(0, 5)}, // what is wrapped has its own key within
		{atom(0), atom(1), key(0), wrap(2, 1), key(1), wrap(4, 0)},               // two locked into each other
	}
}

func TestGreaterListsAreKnown(t *testing.T) { // P6.1, P6.2, P6.3
	for _, l := range someLists() {
		eachSet(len(l), func(have []int) {
			holdAll(t, l, have, allOf(l, have))
			if got, e := know.Shut(l, have); got != isShut(l, have) || e != api.OK {
				t.Fatalf("Shut(%v, %v) = %v, %d", l, have, got, e)
			}
		})
	}
}

func TestTheThreeWays(t *testing.T) { // P6.1: each way alone, and what none of them tells
	for name, x := range map[string]struct {
		l         []api.Term
		have, all []int
	}{
		"no terms":                              {nil, nil, nil},
		"no terms, not nil":                     {[]api.Term{}, []int{}, nil},
		"nothing that one has":                  {[]api.Term{atom(0), left(0), wrap(0, 1)}, nil, nil},
		"a left part":                           {[]api.Term{atom(0), left(0)}, []int{0}, []int{0, 1}},
		"a right part":                          {[]api.Term{atom(0), right(0)}, []int{0}, []int{0, 1}},
		"a key":                                 {[]api.Term{atom(0), key(0)}, []int{0}, []int{0, 1}},
		"what is wrapped is made":               {[]api.Term{atom(0), atom(1), wrap(0, 1)}, []int{0, 1}, []int{0, 1, 2}},
		"wrapped with itself":                   {[]api.Term{atom(0), wrap(0, 0)}, []int{0}, []int{0, 1}},
		"what is wrapped is opened":             {[]api.Term{atom(0), atom(1), wrap(0, 1)}, []int{2, 0}, []int{0, 1, 2}},
		"a key that stands behind":              {[]api.Term{atom(0), atom(1), wrap(1, 0)}, []int{2, 1}, []int{0, 1, 2}},
		"a key that is opened itself":           {[]api.Term{atom(0), atom(1), wrap(0, 1), atom(2), wrap(3, 0)}, []int{2, 4, 3}, []int{0, 1, 2, 3, 4}},
		"a key that is a part of what it opens": {[]api.Term{atom(0), key(0), wrap(1, 0)}, []int{2, 1}, []int{0, 1, 2}},
		"what is wrapped, without its key":      {[]api.Term{atom(0), atom(1), wrap(0, 1)}, []int{2}, []int{2}},
		"what is wrapped, with what it wraps":   {[]api.Term{atom(0), atom(1), wrap(0, 1)}, []int{2, 1}, []int{1, 2}},
		"a key alone":                           {[]api.Term{atom(0), atom(1), wrap(0, 1)}, []int{0}, []int{0}},
		"no way back from a left part":          {[]api.Term{atom(0), left(0), key(1)}, []int{1}, []int{1, 2}},
		"no way back from a right part":         {[]api.Term{atom(0), right(0), key(1)}, []int{1}, []int{1, 2}},
		"no way back from a key":                {[]api.Term{atom(0), key(0), left(1)}, []int{1}, []int{1, 2}},
		"no way back from all parts":            {[]api.Term{atom(0), left(0), right(0), key(0)}, []int{1, 2, 3}, []int{1, 2, 3}},
		"a part's B is none":                    {[]api.Term{atom(9), atom(8), left(1), right(1), key(1)}, []int{1, 2}, []int{1, 2, 3, 4}},
		"an atom's A is no place":               {[]api.Term{atom(1), atom(0), atom(2)}, []int{0}, []int{0}},
		"the same place twice":                  {[]api.Term{atom(0), left(0), atom(1)}, []int{0, 0, 1, 0}, []int{0, 1}},
		"the chapter's example":                 {[]api.Term{atom(1), key(0), atom(2), wrap(1, 2)}, []int{3, 0}, []int{0, 1, 2, 3}},
		"the whole document's, told backwards":  {[]api.Term{atom(2), atom(1), key(1), wrap(2, 0)}, []int{1, 3}, []int{0, 1, 2, 3}},
	} {
		t.Run(name, func(t *testing.T) { holdAll(t, x.l, x.have, x.all) })
	}
}

func TestSomeChains(t *testing.T) { // P6.2
	l := []api.Term{atom(1), key(0), atom(2), wrap(1, 2), left(2), wrap(0, 4)} // W(K(a1),a2), and W(a1,L(a2))
	for name, x := range map[string]struct {
		have, steps []int
		is          bool
	}{
		"no steps":                                {nil, nil, true},
		"no steps of some":                        {[]int{0, 3}, []int{}, true},
		"what one has":                            {[]int{0, 3}, []int{3, 0}, true},
		"what one has, told twice":                {[]int{0, 0}, []int{0}, true},
		"all of it":                               {[]int{0, 3}, []int{0, 1, 3, 2, 4, 5}, true},
		"another order":                           {[]int{0, 3}, []int{3, 0, 1, 2, 4, 5}, true},
		"an order that is none":                   {[]int{0, 3}, []int{0, 3, 2, 1, 4, 5}, false},
		"the other way round":                     {[]int{0, 3}, []int{5, 4, 2, 3, 1, 0}, false},
		"but for the first one":                   {[]int{0, 3}, []int{1, 3, 2}, false},
		"but for the last one":                    {[]int{0, 3}, []int{0, 3, 4}, false},
		"but for one in the middle":               {[]int{0, 3}, []int{0, 3, 4, 1, 2}, false},
		"what one has does not tell till it is":   {[]int{0, 3}, []int{1}, false},
		"the key is not told":                     {[]int{0, 1, 3}, []int{3, 2}, false},
		"what is wrapped is not told":             {[]int{0, 1, 3}, []int{1, 2}, false},
		"what it wraps is not told":               {[]int{0, 1, 2}, []int{1, 3}, false},
		"the key of what is wrapped is not told":  {[]int{0, 1, 2}, []int{2, 3}, false},
		"one twice":                               {[]int{0, 3}, []int{0, 1, 0}, false},
		"one twice at once":                       {[]int{0, 3}, []int{0, 0}, false},
		"one that follows twice":                  {[]int{0, 3}, []int{0, 1, 1}, false},
		"one that one has, and that follows":      {[]int{0, 1}, []int{0, 1}, true},
		"one that one has, and follows, in front": {[]int{0, 1}, []int{1, 0}, true},
		"from nothing":                            {nil, []int{0}, false},
	} {
		if is, e := know.Is(l, x.have, x.steps); is != x.is || e != api.OK {
			t.Errorf("%s: %v, %d", name, is, e)
		}
	}
}

func TestSomeSetsAreShut(t *testing.T) { // P6.2
	l := []api.Term{atom(1), key(0), atom(2), wrap(1, 2), left(2), wrap(0, 4)}
	for _, x := range []struct {
		set []int
		is  bool
	}{
		{nil, true}, {[]int{}, true}, {[]int{0}, false}, {[]int{0, 1}, true}, {[]int{1}, true}, {[]int{1, 1, 0, 1}, true},
		{[]int{2}, false}, {[]int{2, 4}, true}, {[]int{3}, true}, {[]int{3, 1}, false}, {[]int{3, 1, 2}, false}, {[]int{3, 1, 2, 4}, true},
		{[]int{1, 2, 4}, false}, {[]int{5}, true}, {[]int{5, 4}, true}, {[]int{5, 0, 1}, false}, {[]int{4, 0, 1}, false}, {[]int{5, 0, 1, 4}, true},
		{[]int{5, 4, 3, 2, 1, 0}, true}, {[]int{4, 3, 2, 1, 0}, false}, {[]int{5, 4, 3, 2, 0}, false},
	} {
		if is, e := know.Shut(l, x.set); is != x.is || e != api.OK {
			t.Errorf("Shut(%v) = %v, %d", x.set, is, e)
		}
	}
	if is, e := know.Shut(nil, nil); !is || e != api.OK {
		t.Errorf("no terms: %v, %d", is, e)
	}
	if is, e := know.Is(nil, nil, nil); !is || e != api.OK {
		t.Errorf("no terms, no steps: %v, %d", is, e)
	}
}

func TestWhatIsKnownIsTheLeastShutSet(t *testing.T) { // P6.4
	do := func(l []api.Term) {
		var shut [][]int
		eachSet(len(l), func(set []int) {
			if is, e := know.Shut(l, set); is && e == api.OK {
				shut = append(shut, set)
			}
		})
		eachSet(len(l), func(have []int) {
			all, e := know.All(l, have)
			if is, f := know.Shut(l, all); !is || e != api.OK || f != api.OK || !hasAll(all, have) {
				t.Fatalf("All(%v, %v) = %v, %d: shut %v, %d", l, have, all, e, is, f)
			}
			for _, set := range shut {
				if hasAll(set, have) && !hasAll(set, all) {
					t.Fatalf("All(%v, %v) = %v, but %v is less", l, have, all, set)
				}
			}
			if again, e := know.All(l, all); !slices.Equal(again, all) || e != api.OK {
				t.Fatalf("All(%v, %v) = %v, %d", l, all, again, e)
			}
			for i := range l {
				if more, e := know.All(l, append(slices.Clone(have), i)); !hasAll(more, all) || e != api.OK {
					t.Fatalf("All(%v, %v and %d) = %v, %d, less than %v", l, have, i, more, e, all)
				}
			}
		})
	}
	eachSmall(3, do)
	for _, l := range someLists() {
		do(l)
	}
}

// holdLong holds what is known of a great list against what is to be, at some of its places, and at its ends.
func holdLong(t *testing.T, l []api.Term, have, want []int) {
	t.Helper()
	all, e := know.All(l, have)
	if !slices.Equal(all, want) || e != api.OK {
		t.Fatalf("%d are known, %d, not %d", len(all), e, len(want))
	}
	if shut, e := know.Shut(l, all); !shut || e != api.OK {
		t.Errorf("what is known: shut %v, %d", shut, e)
	}
	for _, i := range []int{0, 1, len(l) / 2, len(l) - 2, len(l) - 1} {
		_, is := slices.BinarySearch(want, i)
		if got, e := know.Knows(l, have, i); got != is || e != api.OK {
			t.Errorf("Knows(%d) = %v, %d", i, got, e)
		}
		steps, e := know.Why(l, have, i)
		if !is {
			if len(steps) != 0 || e != api.ErrNone {
				t.Errorf("Why(%d): %d steps, %d", i, len(steps), e)
			}
			continue
		}
		if ok, f := know.Is(l, have, steps); !ok || len(steps) == 0 || steps[len(steps)-1] != i || e != api.OK || f != api.OK {
			t.Errorf("Why(%d): %d steps, a chain %v, %d, %d", i, len(steps), ok, e, f)
		}
	}
}

func TestFullLists(t *testing.T) { // P6.1, P6.2, P6.3: MaxTerms
	last := api.MaxTerms - 1
	half := api.MaxTerms / 2
	t.Run("atoms", func(t *testing.T) {
		holdLong(t, atoms(api.MaxTerms), []int{last, 1}, []int{1, last})
		holdLong(t, atoms(api.MaxTerms), backwards(run(0, api.MaxTerms)), run(0, api.MaxTerms))
	})
	t.Run("parts of parts", func(t *testing.T) {
		for _, kind := range []int{api.LeftT, api.RightT, api.KeyT} {
			l := parts(last, kind)
			holdLong(t, l, []int{0}, run(0, api.MaxTerms))
			holdLong(t, l, []int{half}, run(half, api.MaxTerms))
			if is, e := know.Is(l, []int{0}, run(0, api.MaxTerms)); !is || e != api.OK {
				t.Errorf("all of it: %v, %d", is, e)
			}
			if is, e := know.Is(l, []int{0}, append(run(0, last-1), last)); is || e != api.OK {
				t.Errorf("all of it but one: %v, %d", is, e)
			}
		}
	})
	// Each one opens the one ahead of it, from the last one on down.
	t.Run("openings", func(t *testing.T) {
		l := atoms(half)
		for i := range half - 1 {
			l = append(l, wrap(i+1, i))
		}
		l = append(l, wrap(0, 0))
		sent := run(half, last)
		holdLong(t, l, append([]int{half - 1}, sent...), run(0, api.MaxTerms))
		holdLong(t, l, append(slices.Clone(sent), 0), append([]int{0}, run(half, api.MaxTerms)...))
		holdLong(t, l, sent, sent)
	})
	// One key opens all, and all are parts of one.
	t.Run("a star", func(t *testing.T) {
		l := append(atoms(half), key(0))
		for i := 1; len(l) < api.MaxTerms; i++ {
			l = append(l, wrap(half, i))
		}
		sent := run(half+1, api.MaxTerms)
		holdLong(t, l, append(slices.Clone(sent), 0), run(0, api.MaxTerms))
		holdLong(t, l, append(slices.Clone(sent), half), run(1, api.MaxTerms))
		holdLong(t, l, sent, sent)
	})
}

// calls are all calls, each with a list of places in each of its lists in turn; each tells whether all but the error is zero.
func calls(l []api.Term, places []int, i int) map[string]func() (bool, api.Errno) {
	return map[string]func() (bool, api.Errno){
		"All":           func() (bool, api.Errno) { all, e := know.All(l, places); return len(all) == 0, e },
		"Knows":         func() (bool, api.Errno) { is, e := know.Knows(l, places, i); return !is, e },
		"Why":           func() (bool, api.Errno) { steps, e := know.Why(l, places, i); return len(steps) == 0, e },
		"Shut":          func() (bool, api.Errno) { is, e := know.Shut(l, places); return !is, e },
		"Is, of have":   func() (bool, api.Errno) { is, e := know.Is(l, places, nil); return !is, e },
		"Is, of steps":  func() (bool, api.Errno) { is, e := know.Is(l, nil, places); return !is, e },
		"Is, of both":   func() (bool, api.Errno) { is, e := know.Is(l, places, places); return !is, e },
		"Is, twice one": func() (bool, api.Errno) { is, e := know.Is(l, []int{0}, append([]int{0, 0}, places...)); return !is, e },
	}
}

func TestTermsThatMayNotBe(t *testing.T) { // P6.1, P6.2, P6.3
	for name, l := range map[string][]api.Term{
		"no kind":                {{}},
		"kind 6":                 {atom(0), {Kind: 6}},
		"an atom below 0":        {atom(-1)},
		"an atom too great":      {atom(api.MaxAtom + 1)},
		"an atom with B":         {{Kind: api.AtomT, B: 1}},
		"made of itself":         {left(0)},
		"made of one behind":     {left(1), atom(0)},
		"a place below 0":        {atom(0), key(-1)},
		"a part with B":          {atom(0), {Kind: api.RightT, B: 1}},
		"wraps itself":           {atom(0), wrap(0, 1)},
		"wrapped with one far":   {atom(0), wrap(math.MaxInt, 0)},
		"wraps one far":          {atom(0), wrap(0, math.MinInt)},
		"an atom twice":          {atom(5), atom(5)},
		"a wrapping twice":       {atom(5), atom(6), wrap(0, 1), wrap(0, 1)},
		"the last one bad":       append(atoms(40), left(40)),
		"one more than MaxTerms": append(atoms(api.MaxTerms), left(0)),
		"many without kinds":     make([]api.Term, api.MaxTerms+1),
	} {
		if term.Check(l) != api.ErrArg {
			t.Fatalf("%s: they may be", name)
		}
		for _, places := range [][]int{nil, {}, {0}, {len(l) - 1, 0}, {-1}, {len(l)}} {
			for call, do := range calls(l, places, 0) {
				if zero, e := do(); !zero || e != api.ErrArg {
					t.Errorf("%s: %s of %v: %v, %d", name, call, places, zero, e)
				}
			}
		}
	}
}

// holdNoPlace holds each call with a place that there is not, in each of its lists and as i, to ErrArg and nothing else.
func holdNoPlace(t *testing.T, l []api.Term, bad int, lists ...[]int) {
	t.Helper()
	for _, places := range lists {
		for call, do := range calls(l, places, 0) {
			if zero, e := do(); !zero || e != api.ErrArg {
				t.Errorf("%d terms: %s of %v: %v, %d", len(l), call, places, zero, e)
			}
		}
	}
	for _, have := range [][]int{nil, run(0, len(l)), {bad}} {
		if is, e := know.Knows(l, have, bad); is || e != api.ErrArg {
			t.Errorf("%d terms: Knows(%d) = %v, %d", len(l), bad, is, e)
		}
		if steps, e := know.Why(l, have, bad); len(steps) != 0 || e != api.ErrArg {
			t.Errorf("%d terms: Why(%d) = %v, %d", len(l), bad, steps, e)
		}
	}
}

func TestPlacesThatThereAreNot(t *testing.T) { // P6.1, P6.2, P6.3
	for _, l := range [][]api.Term{nil, {atom(0)}, {atom(1), key(0), wrap(1, 0)}} {
		for _, bad := range []int{-1, -2, len(l), len(l) + 1, 1 << 32, 1<<32 + 1, -1 << 32, math.MinInt, math.MaxInt} {
			holdNoPlace(t, l, bad, []int{bad}, []int{bad, 0}, []int{0, bad}, []int{0, 0, bad, 0})
		}
	}
	full := atoms(api.MaxTerms)
	for _, bad := range []int{-1, api.MaxTerms} {
		holdNoPlace(t, full, bad, []int{bad}, append(run(1, api.MaxTerms), bad))
	}
}

func TestListsOfTooManyPlaces(t *testing.T) { // P6.1, P6.2, P6.3
	three := []api.Term{atom(1), key(0), wrap(1, 0)}
	most := make([]int, api.MaxTerms)
	holdAll(t, three, most, []int{0, 1, 2})
	most[api.MaxTerms-1] = 2
	holdAll(t, three, most, []int{0, 1, 2})
	most[api.MaxTerms-1] = 1
	if shut, e := know.Shut(three, most); shut || e != api.OK {
		t.Errorf("Shut of MaxTerms = %v, %d", shut, e)
	}
	if is, e := know.Is(three, most, []int{1, 0, 2}); !is || e != api.OK {
		t.Errorf("Is, of MaxTerms that one has = %v, %d", is, e)
	}
	if is, e := know.Is(three, []int{0}, most); is || e != api.OK {
		t.Errorf("Is, of MaxTerms steps = %v, %d", is, e)
	}
	full := atoms(api.MaxTerms)
	if is, e := know.Is(full, run(0, api.MaxTerms), backwards(run(0, api.MaxTerms))); !is || e != api.OK {
		t.Errorf("Is, of MaxTerms steps of MaxTerms = %v, %d", is, e)
	}
	for _, n := range []int{1, 2, api.MaxTerms} {
		for _, l := range [][]api.Term{three, full} {
			for call, do := range calls(l, make([]int, api.MaxTerms+n), 0) {
				if zero, e := do(); !zero || e != api.ErrArg {
					t.Errorf("%d terms, %d too many: %s: %v, %d", len(l), n, call, zero, e)
				}
			}
		}
	}
}

// filled is a list with room behind it, so that what is put behind it is seen there.
func filled(places ...int) []int {
	l := slices.Clip(slices.Concat(places, []int{-7, -7, -7, -7}))
	return l[:len(places)]
}

func TestWhatIsHandedInStays(t *testing.T) { // R2
	terms := func() []api.Term { return slices.Clone(someLists()[0]) }
	l := terms()
	for _, places := range [][]int{nil, {5, 0}, {7, 5, 3}, {4, 1, 1}, {0, 2, 4}, {9}, {3, -1}} {
		have, steps := filled(places...), filled(backwards(places)...)
		know.All(l, have)
		know.Shut(l, have)
		know.Is(l, have, steps)
		for i := -1; i <= len(l); i++ {
			know.Knows(l, have, i)
			know.Why(l, have, i)
		}
		if !slices.Equal(l, terms()) {
			t.Errorf("%v: the terms are now %v", places, l)
		}
		if !slices.Equal(have[:cap(have)], append(places, -7, -7, -7, -7)) || !slices.Equal(steps[:cap(steps)], append(backwards(places), -7, -7, -7, -7)) {
			t.Errorf("%v: the places are now %v, %v", places, have[:cap(have)], steps[:cap(steps)])
		}
	}
}

func TestWhatIsToldIsNew(t *testing.T) { // R2
	l := someLists()[0]
	spoil := func(places []int) {
		for i := range places[:cap(places)] {
			places[:cap(places)][i] = -5
		}
	}
	for _, told := range []func(have []int) []int{
		func(have []int) []int { all, _ := know.All(l, have); return all },
		func(have []int) []int { steps, _ := know.Why(l, have, 1); return steps },
		func(have []int) []int { steps, _ := know.Why(l, have, 5); return steps },
	} {
		for _, have := range [][]int{{0, 5}, {5, 2}, {1, 5}, run(0, len(l))} {
			handed := slices.Clone(have)
			first, second := told(handed), told(handed)
			want := slices.Clone(first)
			spoil(first)
			if !slices.Equal(second, want) || !slices.Equal(handed, have) {
				t.Errorf("%v: what was told, or handed in, is now %v, %v", have, second, handed)
			}
			spoil(handed)
			if !slices.Equal(second, want) || !slices.Equal(told(have), want) || len(want) == 0 {
				t.Errorf("%v: what was told is now %v", have, second)
			}
		}
	}
}
