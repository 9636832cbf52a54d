package value

import (
	"slices"

	"medlar/api"
	"medlar/mix"
	"medlar/seal"
	"medlar/term"
)

// kindAbovePart is what a term's kind is above its part's number: both rise in the same order.
const kindAbovePart = api.LeftT - api.LeftP

func ofBlock(b api.Block) api.Value { return api.Value{B: b} }

func ofSealed(s api.Sealed) api.Value { return api.Value{Sealed: true, S: s} }

func ofTerm(i int) api.Value { return api.Value{Sym: true, T: i} }

// mayBe tells whether values may be, all by terms or all by octets. The terms are not checked here: whoever makes one
// of them checks them all, and a long list is gone through but once.
func mayBe(l []api.Term, values ...api.Value) bool {
	for _, v := range values {
		if v != bare(v) || v.Sym != values[0].Sym {
			return false
		}
		if v.Sym && (v.T < 0 || v.T >= len(l)) {
			return false
		}
	}
	return true
}

// bare is a value with nothing beside what it tells that it is.
func bare(v api.Value) api.Value {
	switch {
	case v.Sym:
		return ofTerm(v.T)
	case v.Sealed:
		return ofSealed(v.S)
	}
	return ofBlock(v.B)
}

// madeTerm is the value of a term, and the terms with it.
func madeTerm(l []api.Term, t api.Term) (api.Value, []api.Term, api.Errno) {
	i, made, e := term.Make(l, t)
	if e != api.OK {
		return api.Value{}, nil, e
	}
	return ofTerm(i), made, api.OK
}

// madeOctets is a value by octets, and the terms, which it leaves as they are.
func madeOctets(l []api.Term, v api.Value) (api.Value, []api.Term, api.Errno) {
	if e := term.Check(l); e != api.OK {
		return api.Value{}, nil, e
	}
	return v, slices.Clone(l), api.OK
}

// The functions below take values that may be.

func isSealed(l []api.Term, v api.Value) bool {
	return v.Sealed || v.Sym && l[v.T].Kind == api.WrapT
}

// usesSealed tells whether a term is made of what is sealed.
func usesSealed(l []api.Term, t api.Term) bool {
	switch t.Kind {
	case api.AtomT:
		return false
	case api.WrapT:
		return isSealed(l, ofTerm(t.A)) || isSealed(l, ofTerm(t.B))
	}
	return isSealed(l, ofTerm(t.A))
}

func partOf(v api.Value, i int) api.Value {
	// Layer 3 refuses none of the parts LeftP to KeyP.
	b, _ := mix.Part(v.B, i)
	return ofBlock(b)
}

func wrapped(k, v api.Value) api.Value { return ofSealed(seal.Wrap(k.B, v.B)) }

// comesOf is what comes of a term, if values has what comes of all that it is made of.
func comesOf(t api.Term, values map[int]api.Value, atoms []api.Block) api.Value {
	switch t.Kind {
	case api.AtomT:
		return ofBlock(atoms[t.A])
	case api.WrapT:
		return wrapped(values[t.A], values[t.B])
	}
	return partOf(values[t.A], t.Kind-kindAbovePart)
}
