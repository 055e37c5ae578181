package typeexpr_test

import (
	"fmt"
	"testing"

	"semtype/api"
	"semtype/typeexpr"
)

// places returns the addresses of all elements of the slices of the types, with those of the room behind them.
func places(l ...api.Type) []any {
	var all []any
	for _, x := range l {
		all = append(all, placesOf(x.Nodes)...)
		for _, node := range x.Nodes[:cap(x.Nodes)] {
			all = append(append(all, placesOf(node.Kids)...), placesOf(node.Fields)...)
		}
	}
	return all
}

func placesOf[T any](l []T) []any {
	var all []any
	room := l[:cap(l)]
	for i := range room {
		all = append(all, &room[i])
	}
	return all
}

// roomy returns x with room behind the elements of its slices.
func roomy(x api.Type) api.Type {
	x.Nodes = append(make([]api.TypeNode, 0, len(x.Nodes)+3), x.Nodes...)
	for i, node := range x.Nodes {
		x.Nodes[i].Kids = append(make([]int, 0, len(node.Kids)+2), node.Kids...)
		x.Nodes[i].Fields = append(make([]api.Field, 0, len(node.Fields)+2), node.Fields...)
	}
	return x
}

// showAll writes a type with the room behind the elements.
func showAll(x api.Type) string {
	s := fmt.Sprint(x.Root)
	for _, node := range x.Nodes[:cap(x.Nodes)] {
		s += fmt.Sprint(node, node.Kids[:cap(node.Kids)], node.Fields[:cap(node.Fields)])
	}
	return s
}

// R2: arguments are not changed, and results share no memory with them, with other results or within themselves.
func TestMemory(t *testing.T) {
	x := roomy(allParts())
	bad := roomy(graph(kids(api.TUnion, 0)))
	list := append(make([]api.Type, 0, 6), x, x, bad)
	bindings := append(make([]api.Binding, 0, 5), bind("A", x), bind("B", x), bind("A", bad))
	ranges, names := append(make([]api.Range, 0, 7), api.Range{Lo: 5, Hi: 6}, api.Range{Lo: 1, Hi: 2}), append(make([]string, 0, 7), "b", "a", "b")
	one := func(x api.Type) []any { return places(x) }
	calls := []func() []any{
		func() []any { return one(typeexpr.None()) }, func() []any { return one(typeexpr.Any()) }, func() []any { return one(typeexpr.Variable("A")) },
		func() []any { return one(typeexpr.Ints(ranges)) }, func() []any { return one(typeexpr.Strings(api.Names{List: names})) },
		func() []any { return one(typeexpr.Atoms(api.Names{List: names, Cofinite: true})) },
		func() []any { return one(typeexpr.Tuple(list...)) }, func() []any { return one(typeexpr.Cons(x, x)) }, func() []any { return one(typeexpr.ListOf(x)) },
		func() []any { return one(typeexpr.Function(list, x)) }, func() []any { return one(typeexpr.Function(list[:0], x)) },
		func() []any { return one(typeexpr.Union(list...)) }, func() []any { return one(typeexpr.Union(x)) }, func() []any { return one(typeexpr.Intersect(x)) },
		func() []any { return one(typeexpr.Intersect(list...)) }, func() []any { return one(typeexpr.Complement(x)) }, func() []any { return one(typeexpr.Difference(x, x)) },
		func() []any { j, _ := typeexpr.Join(x, x); return one(j) }, func() []any { j, _ := typeexpr.Join(bad, bad); return one(j) },
		func() []any { return one(typeexpr.At(x, 0)) }, func() []any { return one(typeexpr.At(x, x.Root)) }, func() []any { return one(typeexpr.Prune(x)) },
		func() []any { return one(typeexpr.Substitute(x, bindings)) }, func() []any { return one(typeexpr.Substitute(x, nil)) },
		func() []any { return placesOf(typeexpr.Variables(x)) },
		func() []any {
			return placesOf([]any{typeexpr.WellFormed(x), typeexpr.Validate(x), typeexpr.IsGround(x)})
		},
	}
	state := func() string {
		return showAll(x) + showAll(bad) + fmt.Sprint(list[:cap(list)], bindings[:cap(bindings)], ranges[:cap(ranges)], names[:cap(names)])
	}
	before, given := state(), map[any]bool{}
	for _, place := range places(x, bad) {
		given[place] = true
	}
	for i, call := range calls {
		own := append(call(), call()...)
		if len(own) == 0 {
			t.Errorf("call %d has no result", i)
		}
		taken := map[any]bool{}
		for _, place := range own {
			if given[place] || taken[place] {
				t.Fatalf("call %d: shared memory", i)
			}
			taken[place] = true
		}
		if state() != before {
			t.Fatalf("call %d changes an argument", i)
		}
	}
}

// R2, R5: writing into a result changes no later result.
func TestResultsAreNew(t *testing.T) {
	make := []func() api.Type{
		typeexpr.None, typeexpr.Any, func() api.Type { return typeexpr.Variable("A") }, func() api.Type { return typeexpr.Prune(api.Type{}) },
		func() api.Type { return typeexpr.At(allParts(), 99) }, func() api.Type { j, _ := typeexpr.Join(api.Type{}, api.Type{}); return j },
	}
	for i, f := range make {
		wanted, x := show(f()), f()
		for k := range x.Nodes {
			x.Nodes[k] = kids(api.TFun, 7)
		}
		if got := show(f()); got != wanted {
			t.Errorf("function %d: %s", i, got)
		}
	}
}
