package lines

import (
	"slices"

	"semtype/api"
)

// joins returns how the fact joins facts about the Kids of its node: with api.TInter all of them hold, with api.TUnion some of them. It returns 0 for other facts.
func (r *reading) joins(f fact) int {
	switch kind := r.nodes[f.node()].Kind; {
	case kind != api.TUnion && kind != api.TInter:
		return 0
	case (kind == api.TInter) != f.denied():
		return api.TInter
	}
	return api.TUnion
}

// inside returns the facts that f joins in this way, or the one that it is the same as. ok is false if there are none.
func (r *reading) inside(f fact, how int) (l []fact, ok bool) {
	node := &r.nodes[f.node()]
	if node.Kind == api.TNot {
		return []fact{about(node.Kids[0], !f.denied())}, true
	}
	if r.joins(f) != how {
		return nil, false
	}
	for _, n := range node.Kids {
		l = append(l, about(n, f.denied()))
	}
	return l, true
}

// gather joins facts in one way: it puts those in the place of a fact that it joins in this way, leaves out those that do not count, and returns the others, ascending. They are decided if they hold never, with api.TInter, or always, with api.TUnion.
func (r *reading) gather(how int, facts ...fact) (parts []fact, decided bool) {
	neutral := always
	if how == api.TUnion {
		neutral = never
	}
	met := map[fact]bool{}
	for todo := slices.Clone(facts); len(todo) > 0; {
		f := r.same(todo[len(todo)-1])
		todo = todo[:len(todo)-1]
		t := r.truthOf(f)
		if met[f] || t == neutral {
			continue
		}
		if met[f.opposite()] || t == neutral.opposite() {
			return nil, true
		}
		met[f] = true
		if l, joined := r.inside(f, how); joined {
			todo = append(todo, l...)
		} else {
			parts = append(parts, f)
		}
	}
	return ascending(parts), false
}

// same returns the fact that stands for f.
func (r *reading) same(f fact) fact {
	if node := &r.nodes[f.node()]; node.Kind == api.TVar {
		return about(r.variables[node.Text], f.denied())
	}
	return f
}

// baseOf returns the values of which the fact, whose truth is inBase, holds.
func (r *reading) baseOf(f fact) base {
	if b, known := r.bases[f]; known {
		return b
	}
	var b base
	if how := r.joins(f); how == 0 {
		b = baseOf(&r.nodes[f.node()], f.denied())
	} else {
		b = r.joinedBase(how, f)
	}
	r.bases[f] = b
	return b
}

func (r *reading) joinedBase(how int, f fact) base {
	result, opposite, pair := all(r.kind), base{}, base.intersect
	if how == api.TUnion {
		result, opposite, pair = opposite, result, base.union
	}
	parts, decided := r.gather(how, f)
	if decided {
		return opposite
	}
	var l []base
	for _, part := range parts {
		l = append(l, r.baseOf(part))
	}
	return join(result, l, pair)
}
