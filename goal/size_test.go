package goal_test

import (
	"slices"
	"testing"

	"semtype/api"
	"semtype/goal"
	"semtype/lines"
	"semtype/value"
)

// R8: more nodes than a program may have in a type.
func TestManyNodes(t *testing.T) {
	const number = 150
	x := graph(kind(api.TUnion), kind(api.TNil))
	add := func(node api.TypeNode) int {
		x.Nodes = append(x.Nodes, node)
		return len(x.Nodes) - 1
	}
	for i := range number {
		n := add(from(int64(2*i), int64(2*i)))
		x.Nodes[0].Kids = append(x.Nodes[0].Kids, n, add(kind(api.TTuple, n)), add(kind(api.TCons, n, 1)), add(record(n, n, field("a", n))))
	}
	add(kind(api.TFun, 1, 1))
	none := len(x.Nodes)
	for i := range number {
		add(kind(api.TFun, 1, 2+4*i))
	}
	mustBeWellFormed(t, x)
	l := goal.Alternatives(x, in(0))
	if len(l) != 1+3*number {
		t.Error(len(l))
	}
	last, odd := value.Int(2*number-2), one
	for _, v := range []func(api.Value) api.Value{func(v api.Value) api.Value { return tuple(v) }, func(v api.Value) api.Value { return value.List(v) }, func(v api.Value) api.Value { return dict("a", v) }} {
		i, parts, ok := goal.Split(x, l, v(last))
		if !ok || !isSplit(v(last), x, l[i], parts) {
			t.Error(v(last), ok)
		}
		expectSplit(t, "another number", x, l, v(odd), -1)
	}
	g := both(only(none - 1))
	for i := range number {
		g.Neg = append(g.Neg, none+i)
	}
	if l := goal.Alternatives(x, g); len(l) != 1 || len(l[0].Forms) != number {
		t.Error("an entry for each function node should violate them", len(l))
	}
}

// R1: unions of tuples and of maps with tags, less other ones, have few alternatives.
func TestTags(t *testing.T) {
	const number = 40
	x := graph(kind(api.TUnion), kind(api.TUnion), kind(api.TNone), text(api.TVar, "A"))
	for i := range number {
		n := len(x.Nodes)
		x.Nodes = append(x.Nodes, text(api.TAtom, "t"+show(i)), from(0, int64(i)), from(0, int64(i+i%2)))
		for side := range 2 {
			m := len(x.Nodes)
			x.Nodes = append(x.Nodes, kind(api.TTuple, n, n+1+side, 3), record(2, 2, field("k", n), field("v", n+1+side)))
			x.Nodes[side].Kids = append(x.Nodes[side].Kids, m, m+1)
		}
	}
	mustBeWellFormed(t, x)
	if l := goal.Alternatives(x, both(only(1), 0)); len(l) != number {
		t.Error(len(l))
	}
	if l := goal.Alternatives(x, both(only(0), 1)); len(l) != 0 {
		t.Error(len(l))
	}
}

// An entry that violates several nodes of Neg is there once, and unrelated nodes have an alternative for each choice of entries.
func TestManyFunctions(t *testing.T) {
	x := graph(kind(api.TFuns), kind(api.TTuples), kind(api.TStrings))
	var results, params []int
	for i := range 11 {
		n := len(x.Nodes)
		x.Nodes = append(x.Nodes, from(int64(i), int64(i+20)), kind(api.TFun, 1, n), kind(api.TFun, n, 2))
		results, params = append(results, n+1), append(params, n+2)
	}
	mustBeWellFormed(t, x)
	for i, c := range []struct {
		g      api.Goal
		wanted int
	}{
		{both(only(0), results...), 2},
		{both(only(results[0]), results[1:]...), 1},
		{both(only(0), params...), 1 << 11},
		{both(only(0), slices.Concat(results, params[:5])...), 2 << 5},
	} {
		isOther := func(alt api.Alternative) bool { return alt.Leaf.Int != 1 }
		if l := slices.DeleteFunc(goal.Alternatives(x, c.g), isOther); len(l) != c.wanted {
			t.Error(i, len(l))
		}
	}
}

// P13.3: forms that share no subgoals are not tried together.
func TestManyForms(t *testing.T) {
	const number = 60
	x := graph(from(0, 9), kind(api.TAtoms), from(0, 0), from(9, 9))
	var entries []api.Entry
	for i := range number {
		entries = append(entries, maps(value.Int(int64(i%10)), value.Int(int64(i%30))))
	}
	v := fun(1, entries...)
	alt := api.Alternative{Leaf: functionLeaf(1)}
	for i := range number {
		alt.Forms, alt.Subgoals = append(alt.Forms, form(2*i, 2*i+1)), append(alt.Subgoals, in(0), in(0))
	}
	if i, parts, ok := goal.Split(x, []api.Alternative{alt}, v); !ok || !isSplit(v, x, alt, parts) {
		t.Error(i, ok)
	}
	alt.Subgoals[2*number-1] = in(1)
	expectSplit(t, "no entry for the last form", x, []api.Alternative{alt}, v, -1)
	alt.Subgoals[2*number-1] = in(0)
	alt.Forms = append(alt.Forms, form(2*number, 2*number+1), form(2*number+2, 2*number))
	alt.Subgoals = append(alt.Subgoals, in(), in(2), in(3))
	expectSplit(t, "no entries for two forms that share a subgoal", x, []api.Alternative{alt}, v, -1)
	alt.Subgoals[2*number+1] = in()
	if i, parts, ok := goal.Split(x, []api.Alternative{alt}, v); !ok || !isSplit(v, x, alt, parts) {
		t.Error(i, ok)
	}
}

// R8: functions with many entries, and maps with many keys.
func TestLargeValues(t *testing.T) {
	const number = 1 << 11
	x := graph(from(number-1, number), kind(api.TAtoms))
	var entries []api.Entry
	var names []api.Key
	var members []api.Value
	for i := range number {
		n := value.Int(int64(i))
		entries, members = append(entries, maps(n, n), fails(n)), append(members, n)
		names = append(names, api.Key{Kind: api.KeyString, Text: show(number - i)})
	}
	f := fun(1, entries...)
	last := value.Int(number - 1)
	functions := []api.Alternative{
		{Leaf: functionLeaf(1), Forms: []api.Form{form(0, 1)}, Subgoals: []api.Goal{in(0), in(1)}}, {Leaf: functionLeaf(1), Forms: []api.Form{failing(0), form(1, 2)}, Subgoals: []api.Goal{in(0), in(0), in(1)}},
		{Leaf: functionLeaf(1), Forms: []api.Form{failing(0), form(1, 2)}, Subgoals: []api.Goal{in(0), in(0), in(0)}},
	}
	expectSplit(t, "function", x, functions, f, 2, last, last, last)
	alt := api.Alternative{Leaf: leafOf(api.VMap), Keys: names, Subgoals: free(number)}
	v := mustMake(t, alt, members...)
	if !isDescribed(v, alt, members) {
		t.Error("map")
	}
	expectSplit(t, "map", x, []api.Alternative{{Leaf: leafOf(api.VMap), Subgoals: []api.Goal{in(0), in(1)}}, {Leaf: leafOf(api.VMap), Subgoals: []api.Goal{in(0), in(), in(0)}}}, v, 1, last, v.Kids[0], last)
}

// R1: the document's limit of 2^16 levels.
func TestDeepValues(t *testing.T) {
	const levels = 1 << 16
	x := graph(kind(api.TUnion, 1, 2, 3, 4, 5), kind(api.TNil), kind(api.TTuple, 0), kind(api.TCons, 0, 6), record(0, 0), kind(api.TFun, 0, 0), kind(api.TAny))
	mustBeWellFormed(t, x)
	l := goal.Alternatives(x, in(0))
	for i, wrap := range []func(api.Value) api.Value{
		func(v api.Value) api.Value { return api.Value{Kind: api.VTuple, Kids: []api.Value{v}} },
		func(v api.Value) api.Value { return api.Value{Kind: api.VCons, Kids: []api.Value{v, empty}} },
		func(v api.Value) api.Value { return api.Value{Kind: api.VCons, Kids: []api.Value{empty, v}} },
		func(v api.Value) api.Value { return api.Value{Kind: api.VMap, Keys: keys("a"), Kids: []api.Value{v}} },
	} {
		v := empty
		for range levels - 2 {
			v = wrap(v)
		}
		outer := wrap(v)
		n, parts, ok := goal.Split(x, l, outer)
		if !ok || !isSplit(outer, x, l[n], parts) {
			t.Fatal(i, ok)
		}
		if outer.Kind == api.VMap {
			continue
		}
		if w := mustMake(t, l[n], parts...); !value.Equal(w, outer) || !lines.InGoal(w, x, in(0)) {
			t.Error(i)
		}
	}
	deep := empty
	for range levels - 2 {
		deep = tuple1(deep)
	}
	alt := api.Alternative{Leaf: functionLeaf(1), Forms: []api.Form{form(0, 0), failing(0)}, Subgoals: []api.Goal{in(0)}}
	f := mustMake(t, alt, deep)
	if value.Height(f) != levels || len(f.Entries) != 2 {
		t.Error(value.Height(f))
	}
	if i, parts, ok := goal.Split(x, []api.Alternative{alt}, f); i != 0 || !ok || !slices.EqualFunc(parts, []api.Value{deep}, value.Equal) {
		t.Error(i, ok)
	}
}

// tuple1 is without the copy of all levels that value.Tuple makes.
func tuple1(v api.Value) api.Value { return api.Value{Kind: api.VTuple, Kids: []api.Value{v}} }
