package term

import (
	"strconv"

	"medlar/api"
)

// begins is what the text of a term of each kind begins with.
var begins = [...]string{
	api.AtomT:  "a",
	api.LeftT:  "L(",
	api.RightT: "R(",
	api.KeyT:   "K(",
	api.WrapT:  "W(",
}

// mayBe tells whether a term may be at place i.
func mayBe(t api.Term, i int) bool {
	ahead := func(k int) bool { return k >= 0 && k < i }
	switch t.Kind {
	case api.AtomT:
		return t.A >= 0 && t.A <= api.MaxAtom && t.B == 0
	case api.LeftT, api.RightT, api.KeyT:
		return ahead(t.A) && t.B == 0
	case api.WrapT:
		return ahead(t.A) && ahead(t.B)
	}
	return false
}

// placesOf tells where each term is, as whoever checks a list may go on to look for one.
func placesOf(l []api.Term) (map[api.Term]int, api.Errno) {
	if len(l) > api.MaxTerms {
		return nil, api.ErrArg
	}
	places := make(map[api.Term]int, len(l))
	for i, t := range l {
		if !mayBe(t, i) {
			return nil, api.ErrArg
		}
		places[t] = i
	}
	// Two that are the same have one place between them.
	if len(places) != len(l) {
		return nil, api.ErrArg
	}
	return places, api.OK
}

func checkPlace(l []api.Term, i int) api.Errno {
	if e := Check(l); e != api.OK {
		return e
	}
	if i < 0 || i >= len(l) {
		return api.ErrArg
	}
	return api.OK
}

// The functions below take terms that were checked.

// madeOf hands the places of what a term is made of to do.
func madeOf(t api.Term, do func(place int)) {
	if t.Kind == api.AtomT {
		return
	}
	do(t.A)
	if t.Kind == api.WrapT {
		do(t.B)
	}
}

// appendText puts the text of the term at place i behind a text.
func appendText(text []byte, l []api.Term, i int) []byte {
	// Each wrapping may double a text: one that is too long already gets no more, so that all of this ends soon.
	if len(text) > api.MaxText {
		return text
	}
	t := l[i]
	text = append(text, begins[t.Kind]...)
	if t.Kind == api.AtomT {
		return strconv.AppendInt(text, int64(t.A), 10)
	}
	text = appendText(text, l, t.A)
	if t.Kind == api.WrapT {
		text = append(text, ',')
		text = appendText(text, l, t.B)
	}
	return append(text, ')')
}
