package diagram

import (
	"math/bits"
	"slices"

	"semtype/api"
)

// Paths returns the ways from the root of d to true, in the order of a depth-first walk, High before Low.
func Paths(d api.Diagram) []api.Path {
	d = accept(d)
	var paths []api.Path
	var pos, neg []int
	var walk func(r int)
	walk = func(r int) {
		switch r {
		case falseReference:
			return
		case trueReference:
			paths = append(paths, api.Path{Pos: copyOf(pos), Neg: copyOf(neg)})
			return
		}
		node := d.Nodes[r-firstNode]
		pos = append(pos, node.Literal)
		walk(node.High)
		pos = pos[:len(pos)-1]
		neg = append(neg, node.Literal)
		walk(node.Low)
		neg = neg[:len(neg)-1]
	}
	walk(d.Root)
	return paths
}

func copyOf(l []int) []int { return append([]int(nil), l...) }

// FromPaths returns the diagram of the disjunction of these paths, or ErrInvalid if one of them has a literal that does not exist.
func FromPaths(l []api.Path) (api.Diagram, api.Code) {
	terms, ok := termsOf(l)
	if !ok {
		return api.Diagram{}, api.ErrInvalid
	}
	return disjunction(terms), api.OK
}

// term is a path as two sets of literals: bit n stands for literal n.
type term struct{ pos, neg uint }

// termsOf returns each path once, and false if one of them has a literal that does not exist.
func termsOf(l []api.Path) (terms []term, ok bool) {
	known := map[term]bool{}
	for _, p := range l {
		pos, posOK := setOf(p.Pos)
		neg, negOK := setOf(p.Neg)
		if !posOK || !negOK {
			return nil, false
		}
		t := term{pos, neg}
		if !known[t] {
			known[t] = true
			terms = append(terms, t)
		}
	}
	return terms, true
}

func setOf(literals []int) (set uint, ok bool) {
	for _, n := range literals {
		if !isLiteral(n) {
			return 0, false
		}
		set |= 1 << n
	}
	return set, true
}

// disjunction fixes the first literal of the terms to true and to false, and so on until a term is true or none is left.
func disjunction(terms []term) api.Diagram {
	build := newBuilder(0)
	var walk func(terms []term) int
	walk = func(terms []term) int {
		if len(terms) == 0 {
			return falseReference
		}
		if slices.Contains(terms, term{}) {
			return trueReference
		}
		n := firstLiteral(terms)
		high := walk(fix(terms, n, true))
		low := walk(fix(terms, n, false))
		return build.reference(api.DiagramNode{Literal: n, High: high, Low: low})
	}
	return build.diagram(walk(terms))
}

func firstLiteral(terms []term) int {
	var literals uint
	for _, t := range terms {
		literals |= t.pos | t.neg
	}
	return bits.TrailingZeros(literals)
}

// fix returns what is left of the terms where literal n has this value. A term with n on both sides is false for both values.
func fix(terms []term, n int, value bool) []term {
	var rest []term
	literal := uint(1) << n
	for _, t := range terms {
		against := t.pos
		if value {
			against = t.neg
		}
		if against&literal == 0 {
			rest = append(rest, term{t.pos &^ literal, t.neg &^ literal})
		}
	}
	return rest
}
