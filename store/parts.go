package store

import (
	"slices"

	"medlar/api"
	"medlar/label"
	"medlar/layer"
	"medlar/node"
)

// The functions below take heights, schemes, leaves' nodes and terms that were checked: no call of the layers below can fail.

// upward are the pairs by whole subtrees.
func upward(h int, own uint64) []api.Subset {
	var l []api.Subset
	for depth := range h + 1 {
		above, _ := node.Up(h, own, depth)
		l = append(l, api.Subset{I: above})
	}
	return l
}

// beside are the pairs by differences, those that may be of the scheme: by layers the useful ones alone.
func beside(h, scheme int, own uint64) []api.Subset {
	l := []api.Subset{{I: api.Root}}
	for depth := range h {
		above, _ := node.Up(h, own, depth)
		for deeper := range h - depth {
			way, _ := node.Up(h, own, depth+deeper+1)
			other, _ := node.Other(h, way)
			s := api.Subset{I: above, J: other}
			if may, _ := layer.May(h, scheme, s); may {
				l = append(l, s)
			}
		}
	}
	return l
}

// entriesOf are the entries of pairs, and the terms with all that was made. There is to be room for that.
func entriesOf(l []api.Term, h, scheme int, m api.Value, pairs []api.Subset) ([]api.Entry, []api.Term) {
	entries := make([]api.Entry, len(pairs))
	for k, s := range pairs {
		entries[k].S = s
		if s.J == 0 {
			entries[k].V, l, _ = label.Key(l, h, scheme, m, s)
		} else {
			entries[k].V, l, _ = label.Label(l, h, m, s)
		}
	}
	return entries, l
}

// byTerms makes the entries of an atom alone first, and puts what was made behind the terms then: each label looks through all
// terms for each one that it makes.
func byTerms(l []api.Term, h, scheme, master int, pairs []api.Subset) ([]api.Entry, []api.Term, api.Errno) {
	entries, few := entriesOf([]api.Term{{Kind: api.AtomT}}, h, scheme, api.Value{Sym: true}, pairs)
	made, places, e := putBehind(l, master, few)
	if e != api.OK {
		return nil, nil, e
	}
	for k := range entries {
		entries[k].V.T = places[entries[k].V.T]
	}
	return entries, made, api.OK
}

// putBehind puts parts of an atom, which is the first of few, behind terms, as parts of the term at a place: what is there
// already is not put again. It tells where each of few is then.
func putBehind(l []api.Term, place int, few []api.Term) ([]api.Term, []int, api.Errno) {
	made := slices.Clone(l)
	at := make(map[api.Term]int, len(l))
	for k, t := range l {
		at[t] = k
	}
	places := []int{place}
	for _, t := range few[1:] {
		t.A = places[t.A]
		k, there := at[t]
		if !there && len(made) == api.MaxTerms {
			return nil, nil, api.ErrFull
		}
		if !there {
			k, made = len(made), append(made, t)
		}
		places = append(places, k)
	}
	return made, places, api.OK
}

// mayBeHad tells whether a value may be with the terms, and is not sealed. Layer 7's own check would go through all terms for each value.
func mayBeHad(l []api.Term, v api.Value) bool {
	if !v.Sym {
		return v == api.Value{B: v.B}
	}
	return v == api.Value{Sym: true, T: v.T} && v.T >= 0 && v.T < len(l) && l[v.T].Kind != api.WrapT
}
