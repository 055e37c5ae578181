package member

import (
	"iter"
	"slices"

	"semtype/api"
	"semtype/ident"
)

// fits reports whether v is a member of the node if all that parts yields are members.
func (s *search) fits(v *api.Value, node *api.TypeNode) bool {
	switch node.Kind {
	case api.TTuple:
		return v.Kind == api.VTuple && len(v.Kids) == len(node.Kids)
	case api.TCons:
		return v.Kind == api.VCons
	case api.TMap:
		return v.Kind == api.VMap && hasFields(v.Keys, node.Fields)
	case api.TFun:
		return v.Kind == api.VFun && int(v.Int) == len(node.Kids)-1 && !s.failsFor(v, node)
	}
	return false
}

// hasFields reports whether all fields that are not optional are there.
func hasFields(keys []api.Key, fields []api.Field) bool {
	for _, f := range fields {
		if _, there := slices.BinarySearchFunc(keys, f.Key, ident.CompareKeys); !there && !f.Optional {
			return false
		}
	}
	return true
}

// failsFor reports whether the function v fails for arguments that the node allows.
func (s *search) failsFor(v *api.Value, node *api.TypeNode) bool {
	for i := range v.Entries {
		if e := &v.Entries[i]; e.Fails && s.allows(e, node) {
			return true
		}
	}
	return false
}

// allows reports whether the arguments of e are members of the parameters of the node.
func (s *search) allows(e *api.Entry, node *api.TypeNode) bool {
	return s.allIn(pairs(e.Args, node.Kids))
}

// parts yields the parts of v, which fits the node, each with the node that it has to be a member of.
func (s *search) parts(v *api.Value, node *api.TypeNode) iter.Seq2[*api.Value, int] {
	switch node.Kind {
	case api.TMap:
		return fieldParts(v, node)
	case api.TFun:
		return s.results(v, node)
	}
	return pairs(v.Kids, node.Kids)
}

// pairs yields each of l with the node at its index.
func pairs(l []api.Value, nodes []int) iter.Seq2[*api.Value, int] {
	return func(yield func(*api.Value, int) bool) {
		for i := range l {
			if !yield(&l[i], nodes[i]) {
				return
			}
		}
	}
}

func fieldParts(v *api.Value, node *api.TypeNode) iter.Seq2[*api.Value, int] {
	return func(yield func(*api.Value, int) bool) {
		for i, k := range v.Keys {
			if !yield(&v.Kids[i], nodeOfKey(node, k)) {
				return
			}
		}
	}
}

func nodeOfKey(node *api.TypeNode, k api.Key) int {
	i, found := slices.BinarySearchFunc(node.Fields, k, func(f api.Field, k api.Key) int { return ident.CompareKeys(f.Key, k) })
	if found {
		return node.Fields[i].Node
	}
	return node.Rest[k.Kind]
}

// results yields the results of v for arguments that the node allows. v does not fail for any of them.
func (s *search) results(v *api.Value, node *api.TypeNode) iter.Seq2[*api.Value, int] {
	return func(yield func(*api.Value, int) bool) {
		for i := range v.Entries {
			if e := &v.Entries[i]; s.allows(e, node) && !yield(&e.Result, node.Kids[len(e.Args)]) {
				return
			}
		}
	}
}
