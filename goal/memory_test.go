package goal_test

import (
	"slices"
	"testing"

	"semtype/api"
	"semtype/goal"
	"semtype/samples"
	"semtype/value"
)

func placesOfAlternatives(l []api.Alternative) []any {
	all := samples.Places(l)
	for _, alt := range l {
		all = append(append(all, samples.PlacesOfValue(alt.Leaf)...), samples.Places(alt.Keys)...)
		all = append(append(all, samples.Places(alt.Forms)...), samples.Places(alt.Subgoals)...)
		for _, f := range alt.Forms {
			all = append(all, samples.Places(f.Args)...)
		}
		for _, g := range alt.Subgoals {
			all = append(all, samples.PlacesOfGoal(g)...)
		}
	}
	return all
}

// stateOf shows alternatives and what is behind their lists.
func stateOf(l []api.Alternative) string {
	s := show(l[:cap(l)])
	for _, alt := range l {
		s += show(alt.Leaf.Labels[:cap(alt.Leaf.Labels)]) + show(alt.Keys[:cap(alt.Keys)]) + show(alt.Forms[:cap(alt.Forms)]) + show(alt.Subgoals[:cap(alt.Subgoals)])
		for _, f := range alt.Forms {
			s += show(f.Args[:cap(f.Args)])
		}
		for _, g := range alt.Subgoals {
			s += show(g.Pos[:cap(g.Pos)]) + show(g.Neg[:cap(g.Neg)])
		}
	}
	return s
}

// roomy returns the alternative with room behind all its lists.
func roomy(alt api.Alternative) api.Alternative {
	alt.Leaf.Labels, alt.Keys, alt.Forms, alt.Subgoals = samples.WithRoom(alt.Leaf.Labels), samples.WithRoom(alt.Keys), samples.WithRoom(alt.Forms), samples.WithRoom(alt.Subgoals)
	alt.Leaf.Kids, alt.Leaf.Entries = samples.WithRoom(alt.Leaf.Kids), samples.WithRoom(alt.Leaf.Entries)
	for i, f := range alt.Forms {
		alt.Forms[i].Args = samples.WithRoom(f.Args)
	}
	for i, g := range alt.Subgoals {
		alt.Subgoals[i] = api.Goal{Pos: samples.WithRoom(g.Pos), Neg: samples.WithRoom(g.Neg), Lists: g.Lists}
	}
	return alt
}

// R2: neither the type nor the goal is changed or kept, and no two slices of alternatives share memory.
func TestMemoryOfAlternatives(t *testing.T) {
	x := zoo(t)
	x.Nodes = samples.WithRoom(x.Nodes)
	for i, node := range x.Nodes {
		x.Nodes[i].Kids, x.Nodes[i].Fields = samples.WithRoom(node.Kids), samples.WithRoom(node.Fields)
	}
	for _, g := range []api.Goal{
		in(), in(digit, variableA), in(labelled, pairs, pairs), both(only(variableA, digits), cons, variableB), both(only(records, variableB), closed, optionalA, open), both(only(digitToDigit), atomToList, allToNone), both(only(functions, labelled), four, toDigit, toAtom, pairToLoop), both(nil, mixed, common),
	} {
		g.Pos, g.Neg = samples.WithRoom(g.Pos), samples.WithRoom(g.Neg)
		state := func() string {
			s := show(x.Nodes[:cap(x.Nodes)]) + show(g.Pos[:cap(g.Pos)]) + show(g.Neg[:cap(g.Neg)])
			for _, node := range x.Nodes {
				s += show(node.Kids[:cap(node.Kids)]) + show(node.Fields[:cap(node.Fields)])
			}
			return s
		}
		before := state()
		first, second := goal.Alternatives(x, g), goal.Alternatives(x, g)
		result := append(placesOfAlternatives(first), placesOfAlternatives(second)...)
		if len(result) == 0 || samples.Shared(append(samples.PlacesOfType(x), samples.PlacesOfGoal(g)...), result) {
			t.Error(g, "shares memory, or has no result")
		}
		if state() != before {
			t.Error(g, "an argument is changed")
		}
	}
}

// R2: neither the alternative nor the members are changed or kept, and a member that stands in several places is there several times.
func TestMemoryOfMake(t *testing.T) {
	v := label(dict("a", fun(1, maps(one, value.List(a, b)), fails(label(one, "A", "B")))), "A")
	v.Kids = samples.WithRoom(v.Kids)
	for _, alt := range []api.Alternative{
		{Leaf: label(one, "A", "B")}, {Leaf: a}, {Leaf: empty}, {Leaf: leafOf(api.VTuple, "A"), Subgoals: free(3)}, {Leaf: leafOf(api.VCons, "A"), Subgoals: free(2)}, {Leaf: leafOf(api.VMap, "B"), Keys: keys("b", "a"), Subgoals: free(2)}, {Leaf: leafOf(api.VMap)},
		{Leaf: functionLeaf(1, "B"), Forms: []api.Form{form(0, 1), form(0, 0), failing(1)}, Subgoals: free(2)}, {Leaf: functionLeaf(2), Forms: []api.Form{failing(0, 0), failing(0, 0)}, Subgoals: free(1)},
	} {
		alt = roomy(alt)
		members := samples.WithRoom(slices.Repeat([]api.Value{v}, len(alt.Subgoals)))
		if alt.Leaf.Kind == api.VCons {
			members[1] = value.List(v, v)
		}
		state := func() string {
			return show(members[:cap(members)]) + show(v.Kids[:cap(v.Kids)]) + stateOf([]api.Alternative{alt})
		}
		before := state()
		first, second := mustMake(t, alt, members...), mustMake(t, alt, members...)
		given := append(placesOfAlternatives([]api.Alternative{alt}), samples.Places(members)...)
		for _, w := range slices.Concat(members[min(1, len(members)):], []api.Value{v}) {
			given = append(given, samples.PlacesOfValue(w)...)
		}
		if samples.Shared(given, append(samples.PlacesOfValue(first), samples.PlacesOfValue(second)...)) {
			t.Errorf("%+v: shares memory", alt)
		}
		if state() != before {
			t.Errorf("%+v: an argument is changed", alt)
		}
	}
}

// R2: neither the type, the alternatives nor the value are changed or kept, and a part that is taken twice is there twice.
func TestMemoryOfSplit(t *testing.T) {
	x := zoo(t)
	part := label(dict("a", fun(1, maps(one, value.List(a, b)), fails(label(one, "A", "B")))), "A")
	l := []api.Alternative{
		{Leaf: leafOf(api.VTuple), Subgoals: []api.Goal{in(), in(digit)}}, {Leaf: leafOf(api.VTuple), Subgoals: free(2)}, {Leaf: leafOf(api.VCons), Subgoals: []api.Goal{in(variableA, variableA), both(only(lists), nothing, digit)}},
		{Leaf: leafOf(api.VMap), Keys: keys("a", "b"), Subgoals: free(2)}, {Leaf: functionLeaf(1), Forms: []api.Form{failing(0), form(1, 2), form(3, 2)}, Subgoals: free(4)},
	}
	for i, alt := range l {
		l[i] = roomy(alt)
	}
	l = samples.WithRoom(l)
	for _, v := range []api.Value{tuple(part, part), value.List(part, one), dict("a", part, "c", part), fun(1, fails(part), maps(part, part))} {
		v.Kids, v.Entries = samples.WithRoom(v.Kids), samples.WithRoom(v.Entries)
		state := func() string {
			return show(v.Kids[:cap(v.Kids)]) + show(v.Entries[:cap(v.Entries)]) + stateOf(l) + show(x)
		}
		before := state()
		_, first, ok := goal.Split(x, l, v)
		_, second, _ := goal.Split(x, l, v)
		given := append(append(samples.PlacesOfType(x), placesOfAlternatives(l)...), samples.PlacesOfValue(v)...)
		result := append(samples.Places(first), samples.Places(second)...)
		for _, w := range slices.Concat(first, second) {
			result = append(result, samples.PlacesOfValue(w)...)
		}
		if !ok || len(result) < 20 || samples.Shared(given, result) {
			t.Errorf("%+v: shares memory, or has no result", v)
		}
		if state() != before {
			t.Errorf("%+v: an argument is changed", v)
		}
	}
}

// R3: nil and empty slices are the same.
func TestEmptySlices(t *testing.T) {
	x := zoo(t)
	if l, wanted := goal.Alternatives(x, api.Goal{Pos: []int{}, Neg: []int{}}), goal.Alternatives(x, api.Goal{}); show(l) != show(wanted) || len(l) == 0 {
		t.Error(l)
	}
	hollow := func(leaf api.Value) api.Alternative {
		leaf.Kids, leaf.Keys, leaf.Entries, leaf.Labels = []api.Value{}, []api.Key{}, []api.Entry{}, []string{}
		return api.Alternative{Leaf: leaf, Keys: []api.Key{}, Forms: []api.Form{}, Subgoals: []api.Goal{}}
	}
	for _, v := range []api.Value{one, a, value.String(""), value.Pid(1), empty, tuple(), dict(), fun(0), fun(3)} {
		alt := hollow(v)
		if w, code := goal.Make(alt, []api.Value{}...); code != api.OK || !value.Equal(w, v) {
			t.Error(w, code)
		}
		expectSplit(t, v, x, []api.Alternative{alt}, v, 0)
		expectSplit(t, v, x, []api.Alternative{alt}, alt.Leaf, 0)
	}
	expectSplit(t, "no arguments", x, []api.Alternative{{Leaf: functionLeaf(0), Forms: []api.Form{{Args: []int{}, Fails: true}}}}, fun(0, api.Entry{Args: []api.Value{}, Fails: true}), 0)
}

// R5: the same arguments give the same results.
func TestRepeated(t *testing.T) {
	x := zoo(t)
	for n := range allNodes {
		for _, g := range []api.Goal{in(n), both(nil, n), both(only(labelled), n, pairs), both(only(functions), n, four, pairToLoop)} {
			first := show(goal.Alternatives(x, g))
			for range 4 {
				if l := goal.Alternatives(x, g); show(l) != first {
					t.Fatal(g)
				}
			}
		}
	}
	l := []api.Alternative{{Leaf: functionLeaf(1), Forms: []api.Form{form(0, 1), form(1, 2), form(2, 3)}, Subgoals: free(4)}}
	v := fun(1, maps(one, one), maps(one, a), maps(a, one), maps(a, a), maps(a, b), maps(b, one))
	_, first, _ := goal.Split(x, l, v)
	for range 20 {
		if _, parts, ok := goal.Split(x, l, v); !ok || show(parts) != show(first) {
			t.Fatal(parts)
		}
	}
}
