package diagram_test

import (
	"fmt"
	"testing"

	"semtype/api"
	"semtype/diagram"
)

// places returns the addresses of all elements of the slices, with those of the room behind them.
func places[T any](slices ...[]T) []any {
	var l []any
	for _, s := range slices {
		room := s[:cap(s)]
		for i := range room {
			l = append(l, &room[i])
		}
	}
	return l
}

func placesOfPaths(l []api.Path) []any {
	all := places(l)
	for _, p := range l {
		all = append(all, places(p.Pos, p.Neg)...)
	}
	return all
}

// show writes a diagram or paths with the room behind the elements.
func show(d api.Diagram, l []api.Path) string {
	s := fmt.Sprint(d.Nodes[:cap(d.Nodes)], d.Root)
	for _, p := range l[:cap(l)] {
		s += fmt.Sprint(p.Pos[:cap(p.Pos)], p.Neg[:cap(p.Neg)])
	}
	return s
}

// roomy returns l with room behind it that holds numbers.
func roomy(l ...int) []int {
	return append(append(make([]int, 0, len(l)+3), l...), 7, 7, 7)[:len(l)]
}

// R2: arguments are not changed, and results share no memory with them, with other results or within themselves.
func TestMemory(t *testing.T) {
	d := nodes(6, [3]int{2, 1, 0}, [3]int{2, 0, 1}, [3]int{1, 2, 3}, [3]int{1, 3, 2}, [3]int{0, 4, 5})
	d.Nodes = append(make([]api.DiagramNode, 0, 9), d.Nodes...)
	paths := append(make([]api.Path, 0, 5), path(roomy(3, 1, 1), roomy(2)), path(roomy(), roomy(4, 0)), path(roomy(5), roomy(5)))
	of := func(d api.Diagram) []any { return places(d.Nodes) }
	calls := []func() []any{
		func() []any { return of(diagram.And(d, d)) },
		func() []any { return of(diagram.And(d, diagram.True())) },
		func() []any { return of(diagram.Or(d, d)) },
		func() []any { return of(diagram.Or(diagram.False(), d)) },
		func() []any { return of(diagram.Not(d)) },
		func() []any { return of(diagram.Restrict(d, 1, true)) },
		func() []any { return of(diagram.Restrict(d, 7, true)) },
		func() []any { return of(diagram.Restrict(d, -1, true)) },
		func() []any { l, _ := diagram.Literal(3); return of(l) },
		func() []any { return places(diagram.Support(d)) },
		func() []any { return placesOfPaths(diagram.Paths(d)) },
		func() []any { f, _ := diagram.FromPaths(paths); return of(f) },
		func() []any { return places([]bool{diagram.Valid(d), diagram.Evaluate(d, 5)}) },
	}
	before, given := show(d, paths), map[any]bool{}
	for _, place := range append(of(d), placesOfPaths(paths)...) {
		given[place] = true
	}
	for i, call := range calls {
		own := append(call(), call()...)
		if len(own) == 0 {
			t.Errorf("call %d has no result", i)
		}
		taken := map[any]bool{}
		for _, place := range own {
			if given[place] || taken[place] {
				t.Fatalf("call %d: shared memory", i)
			}
			taken[place] = true
		}
		if show(d, paths) != before {
			t.Fatalf("call %d changes an argument", i)
		}
	}
}

// R2, R5: writing into a result changes no other part of it and no later result.
func TestResultsAreNew(t *testing.T) {
	d := nodes(4, [3]int{2, 1, 0}, [3]int{1, 2, 0}, [3]int{0, 3, 2})
	wanted := fmt.Sprint(diagram.Paths(d))
	paths := diagram.Paths(d)
	for i := range paths {
		paths[i].Pos = append(paths[i].Pos, 9)
		paths[i].Neg = append(paths[i].Neg, 9)
	}
	if got := fmt.Sprint(paths); got != "[{[0 1 2 9] [9]} {[2 9] [0 9]}]" {
		t.Errorf("paths share memory: %s", got)
	}
	paths[0].Pos[0], paths[1].Neg[0] = 9, 9
	if got := fmt.Sprint(diagram.Paths(d)); got != wanted {
		t.Errorf("got %v", got)
	}
	copied := diagram.Restrict(d, 5, true)
	copied.Nodes[0].Literal = 9
	want(t, "Restrict", diagram.Restrict(d, 5, true), d)
}

// R3: nil and empty slices are the same.
func TestEmptySlices(t *testing.T) {
	no, yes := api.Diagram{Nodes: []api.DiagramNode{}, Root: 0}, api.Diagram{Nodes: []api.DiagramNode{}, Root: 1}
	if !diagram.Valid(no) || !diagram.Valid(yes) {
		t.Error("a constant is not valid")
	}
	want(t, "Not of false", diagram.Not(no), diagram.True())
	want(t, "Not of true", diagram.Not(yes), diagram.False())
	if diagram.Valid(api.Diagram{Nodes: []api.DiagramNode{}, Root: 2}) {
		t.Error("a diagram without nodes whose root is a node is valid")
	}
	a, _ := diagram.FromPaths([]api.Path{{Pos: []int{2}}})
	b, _ := diagram.FromPaths([]api.Path{{Pos: []int{2}, Neg: []int{}}})
	want(t, "FromPaths", a, b)
}
