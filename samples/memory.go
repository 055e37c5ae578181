package samples

import "semtype/api"

// Places returns the addresses of the elements of l, and of the room behind them.
func Places[T any](l []T) []any {
	var all []any
	room := l[:cap(l)]
	for i := range room {
		all = append(all, &room[i])
	}
	return all
}

// Shared reports whether one of the places of a result is also one of those that are given, or occurs twice.
func Shared(given, result []any) bool {
	taken := map[any]bool{}
	for _, place := range given {
		taken[place] = true
	}
	for _, place := range result {
		if taken[place] {
			return true
		}
		taken[place] = true
	}
	return false
}

// PlacesOfType returns the places of the slices of t.
func PlacesOfType(t api.Type) []any {
	all := Places(t.Nodes)
	for _, node := range t.Nodes {
		all = append(append(all, Places(node.Kids)...), Places(node.Fields)...)
	}
	return all
}

// PlacesOfValue returns the places of the slices of v.
func PlacesOfValue(v api.Value) []any {
	var all []any
	for _, w := range Subvalues(v) {
		all = append(append(all, Places(w.Kids)...), Places(w.Keys)...)
		all = append(append(all, Places(w.Entries)...), Places(w.Labels)...)
		for _, e := range w.Entries {
			all = append(all, Places(e.Args)...)
		}
	}
	return all
}

// PlacesOfGoal returns the places of the slices of g.
func PlacesOfGoal(g api.Goal) []any { return append(Places(g.Pos), Places(g.Neg)...) }

// PlacesOfLine returns the places of the slices of l.
func PlacesOfLine(l api.Line) []any {
	all := append(append(Places(l.Ints), Places(l.Names.List)...), Places(l.Vars)...)
	return append(append(append(all, Places(l.NotVars)...), Places(l.Pos)...), Places(l.Neg)...)
}

// WithRoom returns a copy of l with room behind its elements, so that a change behind them shows.
func WithRoom[T any](l []T) []T { return append(make([]T, 0, len(l)+3), l...) }
