package lines

import (
	"cmp"
	"slices"

	"semtype/api"
)

// withoutCovered returns conjunctions without choices that have the same values as l, less those of which another one has all values. Only one with fewer literals can: so each is compared with these, found by their first literal.
func withoutCovered(l []partial) (kept []partial) {
	shorter := map[fact][]partial{}
	indexed := 0
	for _, p := range merged(l) {
		for ; indexed < len(kept) && len(kept[indexed].literals) < len(p.literals); indexed++ {
			first := firstLiteral(kept[indexed])
			shorter[first] = append(shorter[first], kept[indexed])
		}
		covers := func(q partial) bool { return isSubset(q.literals, p.literals) && p.base.isSubset(q.base) }
		covered := func(first fact) bool { return slices.ContainsFunc(shorter[first], covers) }
		if !covered(noLiteral) && !slices.ContainsFunc(p.literals, covered) {
			kept = append(kept, p)
		}
	}
	return kept
}

// noLiteral stands for the first literal where there is none.
const noLiteral fact = -1

func firstLiteral(p partial) fact {
	if len(p.literals) == 0 {
		return noLiteral
	}
	return p.literals[0]
}

// merged joins those that have the same literals, and returns them in order of the number of literals.
func merged(l []partial) (m []partial) {
	slices.SortStableFunc(l, func(p, q partial) int {
		return cmp.Or(cmp.Compare(len(p.literals), len(q.literals)), slices.Compare(p.literals, q.literals))
	})
	for _, p := range l {
		if last := len(m) - 1; last >= 0 && slices.Equal(m[last].literals, p.literals) {
			m[last].base = m[last].base.union(p.base)
		} else {
			m = append(m, p)
		}
	}
	return m
}

// line returns a conjunction without choices as a line.
func (r *reading) line(p partial) api.Line {
	l := api.Line{Kind: r.kind, Arity: r.arity}
	switch r.kind {
	case api.VInt:
		l.Ints = slices.Clone(p.base.ints)
	case api.VString, api.VAtom:
		l.Names = api.Names{Cofinite: p.base.names.Cofinite, List: slices.Clone(p.base.names.List)}
	}
	for _, f := range p.literals {
		node := &r.nodes[f.node()]
		switch isVariable := node.Kind == api.TVar; {
		case isVariable && f.denied():
			l.NotVars = append(l.NotVars, node.Text)
		case isVariable:
			l.Vars = append(l.Vars, node.Text)
		case f.denied():
			l.Neg = append(l.Neg, f.node())
		default:
			l.Pos = append(l.Pos, f.node())
		}
	}
	slices.Sort(l.Vars)
	slices.Sort(l.NotVars)
	return l
}
