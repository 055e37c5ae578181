package typeexpr

import (
	"slices"

	"semtype/api"
	"semtype/ident"
	"semtype/interval"
	"semtype/literals"
)

// builder lists the nodes of a new type.
type builder struct{ nodes []api.TypeNode }

// graft adds the nodes that the root of t leads to, and returns the index of the root. Nodes that have been added stand in the place of the type variables that instead names.
func (b *builder) graft(t api.Type, instead map[string]int) int {
	t = accept(t)
	order, places := reached(t), make([]int, len(t.Nodes))
	first := len(b.nodes)
	for _, n := range order {
		node := t.Nodes[n]
		place, replaced := instead[node.Text]
		if replaced && node.Kind == api.TVar {
			places[n] = place
			continue
		}
		places[n] = len(b.nodes)
		b.nodes = append(b.nodes, node)
	}
	for i, node := range b.nodes[first:] {
		b.nodes[first+i] = moved(node, func(n int) int { return places[n] })
	}
	return places[t.Root]
}

func (b *builder) typeAt(root int) api.Type { return api.Type{Nodes: b.nodes, Root: root} }

// leaf returns the type of one node.
func leaf(node api.TypeNode) api.Type { return api.Type{Nodes: []api.TypeNode{node}} }

// compose returns the type whose root has this kind and these types as its Kids.
func compose(kind int, l ...api.Type) api.Type {
	b := builder{[]api.TypeNode{{Kind: kind}}}
	kids := make([]int, len(l))
	for i, t := range l {
		kids[i] = b.graft(t, nil)
	}
	b.nodes[0].Kids = kids
	return b.typeAt(0)
}

// None returns the type without members.
func None() api.Type { return leaf(api.TypeNode{Kind: api.TNone}) }

// Any returns the type of all values.
func Any() api.Type { return leaf(api.TypeNode{Kind: api.TAny}) }

// Ints returns the type of the integers of s.
func Ints(s []api.Range) api.Type {
	var ranges []api.Type
	for _, r := range interval.Normalize(s) {
		ranges = append(ranges, leaf(api.TypeNode{Kind: api.TInt, Lo: r.Lo, Hi: r.Hi}))
	}
	return Union(ranges...)
}

// Strings returns the type of the strings of s.
func Strings(s api.Names) api.Type { return named(s, api.TString, api.TStrings, isText) }

// Atoms returns the type of the atoms of s.
func Atoms(s api.Names) api.Type { return named(s, api.TAtom, api.TAtoms, ident.IsAtom) }

// named returns the type of the values with these names, of which only some count. A node of kind one has one of them, a node of kind all has all that count.
func named(s api.Names, one, all int, counts func(string) bool) api.Type {
	var listed []api.Type
	for _, name := range literals.Finite(s.List...).List {
		if counts(name) {
			listed = append(listed, leaf(api.TypeNode{Kind: one, Text: name}))
		}
	}
	switch {
	case !s.Cofinite:
		return Union(listed...)
	case len(listed) == 0:
		return leaf(api.TypeNode{Kind: all})
	}
	return Difference(leaf(api.TypeNode{Kind: all}), Union(listed...))
}

// Tuple returns the type of the tuples with these components.
func Tuple(l ...api.Type) api.Type {
	if len(l) > api.MaxArity {
		return None()
	}
	return compose(api.TTuple, l...)
}

// Cons returns the type of the values with this head and this tail.
func Cons(head, tail api.Type) api.Type { return compose(api.TCons, head, tail) }

// ListOf returns the type of the lists of such elements.
func ListOf(element api.Type) api.Type {
	b := builder{[]api.TypeNode{{Kind: api.TUnion, Kids: []int{1, 2}}, {Kind: api.TNil}, {Kind: api.TCons}}}
	// The call has a statement of its own: it assigns b.nodes, and Go leaves open whether a statement reads a variable before or after a call in it.
	head := b.graft(element, nil)
	b.nodes[2].Kids = []int{head, 0}
	return b.typeAt(0)
}

// Function returns the type of the functions from these parameters to this result.
func Function(params []api.Type, result api.Type) api.Type {
	if len(params) > api.MaxArity {
		return None()
	}
	return compose(api.TFun, slices.Concat(params, []api.Type{result})...)
}

// Variable returns the type variable with this name.
func Variable(name string) api.Type {
	if !ident.IsVariable(name) {
		return None()
	}
	return leaf(api.TypeNode{Kind: api.TVar, Text: name})
}

// Union returns the type of the members of any of the types.
func Union(l ...api.Type) api.Type { return connect(api.TUnion, None(), l) }

// Intersect returns the type of the members of all of the types.
func Intersect(l ...api.Type) api.Type { return connect(api.TInter, Any(), l) }

// connect leaves out the node of this kind where there are not several types to connect.
func connect(kind int, ofNone api.Type, l []api.Type) api.Type {
	switch len(l) {
	case 0:
		return ofNone
	case 1:
		return Prune(l[0])
	}
	return compose(kind, l...)
}

// Complement returns the type of the values that are no members of t.
func Complement(t api.Type) api.Type { return compose(api.TNot, t) }

// Difference returns the type of the members of s that are no members of t.
func Difference(s, t api.Type) api.Type { return Intersect(s, Complement(t)) }
