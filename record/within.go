package record

import (
	"slices"

	"semtype/api"
)

// hasAll reports whether node n is known to have all values of the goal: those of one of its nodes of Pos.
func (f *frame) hasAll(n int, g api.Goal) bool {
	if f.nodes[n].Kind == api.TAny {
		return true
	}
	return slices.ContainsFunc(g.Pos, func(m int) bool { return m == n || isWithin(&f.nodes[m], &f.nodes[n]) })
}

// isWithin reports whether all members of a are members of b, as far as nodes without parts show it. Types often have several nodes that are the same.
func isWithin(a, b *api.TypeNode) bool {
	switch b.Kind {
	case api.TInt:
		return a.Kind == api.TInt && b.Lo <= a.Lo && a.Hi <= b.Hi
	case api.TString, api.TAtom, api.TVar:
		return a.Kind == b.Kind && a.Text == b.Text
	case api.TStrings:
		return a.Kind == api.TStrings || a.Kind == api.TString
	case api.TAtoms:
		return a.Kind == api.TAtoms || a.Kind == api.TAtom
	case api.TTuples:
		return a.Kind == api.TTuples || a.Kind == api.TTuple
	case api.TFuns:
		return a.Kind == api.TFuns || a.Kind == api.TFun
	case api.TPid, api.TNil:
		return a.Kind == b.Kind
	}
	return false
}
