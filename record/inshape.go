package record

import (
	"slices"

	"semtype/api"
	"semtype/ident"
	"semtype/lines"
	"semtype/typeexpr"
	"semtype/value"
)

// InShape reports whether v is a valid map of the shape.
func InShape(v api.Value, t api.Type, s api.Shape) bool {
	if v.Kind != api.VMap || value.Validate(v) != api.OK || typeexpr.WellFormed(t) != api.OK || !isOf(t, s) {
		return false
	}
	for i, k := range s.Keys {
		w, there := valueAt(v, k)
		if !fits(s.States[i], there) || there && !lines.InGoal(w, t, s.Parts[i]) {
			return false
		}
	}
	others := valuesBeside(v, s.Keys)
	for kind, g := range s.Rest {
		isOut := func(w api.Value) bool { return !lines.InGoal(w, t, g) }
		if slices.ContainsFunc(others[kind], isOut) {
			return false
		}
	}
	for _, e := range s.Some {
		isIn := func(w api.Value) bool { return lines.InGoal(w, t, e.Goal) }
		if !isKind(e.Kind) || !slices.ContainsFunc(others[e.Kind], isIn) {
			return false
		}
	}
	return true
}

// isOf reports whether each key of the shape has a state and a part, and each index of a goal is that of a node of t.
func isOf(t api.Type, s api.Shape) bool {
	goals := slices.Concat(s.Parts, s.Rest[:])
	for _, e := range s.Some {
		goals = append(goals, e.Goal)
	}
	isOther := func(n int) bool { return !isNode(t, n) }
	for _, g := range goals {
		if slices.ContainsFunc(g.Pos, isOther) || slices.ContainsFunc(g.Neg, isOther) {
			return false
		}
	}
	return isEven(s)
}

// valueAt returns the value of the valid map at the key, and whether it is there.
func valueAt(v api.Value, k api.Key) (w api.Value, there bool) {
	i, there := slices.BinarySearchFunc(v.Keys, k, ident.CompareKeys)
	if !there {
		return api.Value{}, false
	}
	return v.Kids[i], true
}

// fits reports whether a key of this state may be there, or may not.
func fits(state int, there bool) bool {
	switch state {
	case api.KeyAbsent:
		return !there
	case api.KeyPresent:
		return there
	}
	return state == api.KeyEither
}

// valuesBeside returns the values of the valid map at other keys than the listed ones, for each kind of keys.
func valuesBeside(v api.Value, listed []api.Key) (others [2][]api.Value) {
	isListed := map[api.Key]bool{}
	for _, k := range listed {
		isListed[k] = true
	}
	for i, k := range v.Keys {
		if !isListed[k] {
			others[k.Kind] = append(others[k.Kind], v.Kids[i])
		}
	}
	return others
}
