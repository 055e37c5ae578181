package witness_test

import (
	"slices"
	"testing"

	"semtype/api"
	"semtype/samples"
	"semtype/value"
	"semtype/witness"
)

// goalsOfAllKinds have witnesses with Kids, Keys, Entries and Labels, and with parts that are alike.
func goalsOfAllKinds() []api.Goal {
	return []api.Goal{
		in(), in(variableA, variableB), in(deep, deep, variableA), in(steep), in(labelledTuple, labelledTuple, variableB), in(labelledList, variableA), in(evenCons), in(branch, branch),
		in(safe), in(labelled, chest), both(only(records, atomKeys), emptyMap, textKeys), both(only(unary, variableB), towerToAll, nestToAll, labelledToAll, pairToPair), both(only(digitToNest), digitToDigit, digitToNone), both(only(functions), unary, constant),
	}
}

// R2: neither the type nor the goal is changed, also not behind their elements, and results share no memory.
func TestMemory(t *testing.T) {
	x := zoo(t)
	x.Nodes = samples.WithRoom(x.Nodes)
	for i, node := range x.Nodes {
		x.Nodes[i].Kids, x.Nodes[i].Fields = samples.WithRoom(node.Kids), samples.WithRoom(node.Fields)
	}
	for _, g := range goalsOfAllKinds() {
		g.Pos, g.Neg = samples.WithRoom(g.Pos), samples.WithRoom(g.Neg)
		x.Root = slices.Concat(g.Pos, only(all))[0]
		state := func() string {
			s := show(x.Nodes[:cap(x.Nodes)]) + show(g.Pos[:cap(g.Pos)]) + show(g.Neg[:cap(g.Neg)])
			for _, node := range x.Nodes {
				s += show(node.Kids[:cap(node.Kids)]) + show(node.Fields[:cap(node.Fields)])
			}
			return s
		}
		before := state()
		var results []any
		for range 2 {
			v, first := witness.Least(x, g)
			w, second := witness.Member(x)
			if first != api.OK || second != api.OK {
				t.Error(g, first, second)
			}
			results = append(append(results, samples.PlacesOfValue(v)...), samples.PlacesOfValue(w)...)
		}
		if samples.Shared(append(samples.PlacesOfType(x), samples.PlacesOfGoal(g)...), results) {
			t.Error(g, "shares memory")
		}
		if state() != before {
			t.Error(g, "an argument is changed")
		}
	}
}

// R2, R5: nothing is kept from one call to the next one.
func TestNothingIsKept(t *testing.T) {
	x := zoo(t)
	g := both(only(either), functions, records)
	before := show(expect(t, "first", x, g, 3))
	g.Pos[0] = deep
	expect(t, "another goal", x, g, 5)
	x.Nodes[deep].Kids[1] = unit
	expect(t, "another type", x, g, 2)
	x.Nodes[deep].Kids[1] = loop
	expect(t, "no members", x, g, 0)
	g.Pos[0], x.Nodes[deep].Kids[1] = either, tower
	if v := expect(t, "as before", x, g, 3); show(v) != before {
		t.Error(v)
	}
}

// R5: the same arguments give the same results, whatever order a map has.
func TestRepeated(t *testing.T) {
	x := zoo(t)
	for n := range allNodes {
		for _, g := range []api.Goal{in(n), both(nil, n), both(only(labelled), n, nothing), both(only(functions), n, constant, towerToAll)} {
			first, code := witness.Least(x, g)
			for range 3 {
				if v, again := witness.Least(x, g); again != code || !value.Equal(v, first) {
					t.Fatal(g)
				}
			}
		}
	}
}

// R3: nil and empty slices are the same.
func TestNilAndEmpty(t *testing.T) {
	x := zoo(t)
	expect(t, "empty Neg", x, api.Goal{Pos: only(nest), Neg: []int{}}, 3)
	expect(t, "empty Pos", x, api.Goal{Pos: []int{}, Neg: only(all)}, 0)
	expect(t, "both empty", x, api.Goal{Pos: []int{}, Neg: []int{}}, 1)
	for i, node := range x.Nodes {
		if len(node.Kids) == 0 {
			x.Nodes[i].Kids = []int{}
		}
		if len(node.Fields) == 0 {
			x.Nodes[i].Fields = []api.Field{}
		}
	}
	expect(t, "empty Kids", x, in(deep), 5)
	expect(t, "empty Fields", x, both(only(atomKeys), emptyMap), 3)
}
