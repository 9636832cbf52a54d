package know

import (
	"slices"

	"medlar/api"
	"medlar/term"
)

// check tells whether terms may be, and whether lists of places are of places that there are.
func check(l []api.Term, lists ...[]int) api.Errno {
	if e := term.Check(l); e != api.OK {
		return e
	}
	isNone := func(i int) bool { return i < 0 || i >= len(l) }
	for _, places := range lists {
		if len(places) > api.MaxTerms || slices.ContainsFunc(places, isNone) {
			return api.ErrArg
		}
	}
	return api.OK
}

// The functions below take terms and places that were checked.

// mind is what one knows: of each place whether it is known, and all that are, in the order in which they were learnt.
type mind struct {
	terms []api.Term
	known []bool
	order []int
}

func mindOf(l []api.Term, have ...int) *mind {
	m := &mind{terms: l, known: make([]bool, len(l))}
	m.learn(have...)
	return m
}

func (m *mind) learn(places ...int) {
	for _, i := range places {
		if !m.known[i] {
			m.known[i] = true
			m.order = append(m.order, i)
		}
	}
}

// tells are the places that follow at once because of what the term at place k is made of: its own, and that of what it wraps.
func (m *mind) tells(k int) []int {
	t := m.terms[k]
	// An atom's A is no place, and only of what is wrapped B is one.
	if t.Kind == api.AtomT || !m.known[t.A] {
		return nil
	}
	if t.Kind != api.WrapT {
		return []int{k}
	}
	var places []int
	if m.known[t.B] {
		places = append(places, k)
	}
	if m.known[k] {
		places = append(places, t.B)
	}
	return places
}

// near are, for each place, its own and those of all terms that are made of it: no others tell it, or tell anything new once it is known.
func near(l []api.Term) [][]int {
	places := make([][]int, len(l))
	for k, t := range l {
		places[k] = append(places[k], k)
		if t.Kind != api.AtomT {
			places[t.A] = append(places[t.A], k)
		}
		if t.Kind == api.WrapT {
			places[t.B] = append(places[t.B], k)
		}
	}
	return places
}

// learnAll learns all that follows, and what follows from that, and so on. Each follows at once from those learnt ahead of it: the order is a chain.
func (m *mind) learnAll() {
	around := near(m.terms)
	for n := 0; n < len(m.order); n++ {
		for _, k := range around[m.order[n]] {
			m.learn(m.tells(k)...)
		}
	}
}
