package lines

import (
	"semtype/api"
	"semtype/interval"
	"semtype/literals"
)

// base is a set of values of one kind by what is in their root: the Int of integers, the Text of strings and atoms. Of each other kind it has all values or none, for which all names or none stand.
type base struct {
	ints  []api.Range
	names api.Names
}

// all returns the base of all values of the kind.
func all(kind int) base {
	if kind == api.VInt {
		return base{ints: interval.Full()}
	}
	return base{names: literals.Cofinite()}
}

// baseOf returns the values of which the fact about this node holds, for nodes that ask for an Int or a Text only.
func baseOf(node *api.TypeNode, denied bool) base {
	if node.Kind == api.TInt {
		ints := []api.Range{{Lo: node.Lo, Hi: node.Hi}}
		if denied {
			ints = interval.Complement(ints)
		}
		return base{ints: ints}
	}
	if denied {
		return base{names: literals.Cofinite(node.Text)}
	}
	return base{names: literals.Finite(node.Text)}
}

func (b base) union(c base) base {
	return base{interval.Union(b.ints, c.ints), literals.Union(b.names, c.names)}
}

func (b base) intersect(c base) base {
	return base{interval.Intersect(b.ints, c.ints), literals.Intersect(b.names, c.names)}
}

func (b base) isEmpty() bool {
	return len(b.ints) == 0 && !b.names.Cofinite && len(b.names.List) == 0
}

func (b base) isSubset(c base) bool {
	return interval.IsSubset(b.ints, c.ints) && literals.IsSubset(b.names, c.names)
}

// join joins the bases in pairs, then the results in pairs, and so on, since joining one after the other takes too long for many of them.
func join(first base, l []base, pair func(a, b base) base) base {
	if len(l) == 0 {
		return first
	}
	for ; len(l) > 1; l = halved(l, pair) {
	}
	return pair(first, l[0])
}

func halved(l []base, pair func(a, b base) base) []base {
	var next []base
	for i := 0; i+1 < len(l); i += 2 {
		next = append(next, pair(l[i], l[i+1]))
	}
	return append(next, l[len(l)/2*2:]...)
}
