package label

import (
	"slices"

	"medlar/api"
	"medlar/node"
	"medlar/value"
)

// The functions below take parts LeftP to KeyP: to walk by a side is to take the part of the same number.

// toLabel are the parts by which one comes from the master value to the label of a subset that may be: no call can fail.
func toLabel(h int, s api.Subset) []int {
	parts, _ := node.Path(h, api.Root, s.I)
	parts = append(parts, api.KeyP)
	if s.J == 0 {
		return parts
	}
	sides, _ := node.Path(h, s.I, s.J)
	return append(parts, sides...)
}

// byParts is what one comes to from a value, part by part, and the terms with all that was made.
func byParts(l []api.Term, v api.Value, parts []int) (api.Value, []api.Term, api.Errno) {
	if value.Check(l, v) != api.OK || isSealed(l, v) {
		return api.Value{}, nil, api.ErrArg
	}
	if v.Sym {
		v.T, parts = downThere(l, v.T, parts)
	}
	made := slices.Clone(l)
	for _, part := range parts {
		var e api.Errno
		if v, made, e = value.Part(made, v, part); e != api.OK {
			return api.Value{}, nil, e
		}
	}
	return v, made, api.OK
}

func isSealed(l []api.Term, v api.Value) bool {
	return v.Sealed || v.Sym && l[v.T].Kind == api.WrapT
}

// downThere goes down from the term at place i as far as the parts are there already, and tells where it came to, and
// which parts are left. A part is behind what it is a part of, so that all are found in one pass: labels of one master
// have most of their way together, and value.Part would go through all terms for each part of it.
func downThere(l []api.Term, i int, parts []int) (int, []int) {
	for k := i + 1; k < len(l) && len(parts) > 0; k++ {
		if l[k] == (api.Term{Kind: api.LeftT - api.LeftP + parts[0], A: i}) {
			i, parts = k, parts[1:]
		}
	}
	return i, parts
}
