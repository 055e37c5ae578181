package solve_test

import (
	"testing"

	"semtype/api"
	"semtype/samples"
	"semtype/solve"
)

// R2: neither the type nor the goal is changed, also not behind their elements.
func TestMemory(t *testing.T) {
	x := zoo(t)
	x.Nodes = samples.WithRoom(x.Nodes)
	for i, node := range x.Nodes {
		x.Nodes[i].Kids, x.Nodes[i].Fields = samples.WithRoom(node.Kids), samples.WithRoom(node.Fields)
	}
	for _, g := range []api.Goal{in(), in(nest, nest, deepest), both(only(records, optionalA), open, closed), both(only(unary), deepToDeep, digitToDigit), both(only(tree), nothing, leaves), both(only(mixed), conses)} {
		g.Pos, g.Neg = samples.WithRoom(g.Pos), samples.WithRoom(g.Neg)
		state := func() string {
			s := show(x.Nodes[:cap(x.Nodes)]) + show(g.Pos[:cap(g.Pos)]) + show(g.Neg[:cap(g.Neg)])
			for _, node := range x.Nodes {
				s += show(node.Kids[:cap(node.Kids)]) + show(node.Fields[:cap(node.Fields)])
			}
			return s
		}
		before := state()
		if solve.LeastHeight(x, g); !solve.Inhabited(x, g) || state() != before {
			t.Error(g)
		}
	}
}

// R2, R5: nothing is kept from one call to the next one.
func TestNothingIsKept(t *testing.T) {
	x := zoo(t)
	g := both(only(either), cons)
	before := heightOf(t, x, g)
	g.Pos[0] = deep
	expect(t, "another goal", x, g, 4)
	x.Nodes[deep].Kids[1] = unit
	expect(t, "another type", x, g, 2)
	g.Pos[0], x.Nodes[deep].Kids[1] = either, nest
	expect(t, "as before", x, g, before)
}

// R3: nil and empty slices are the same.
func TestNilAndEmpty(t *testing.T) {
	x := zoo(t)
	expect(t, "empty Neg", x, api.Goal{Pos: only(nest), Neg: []int{}}, 3)
	expect(t, "empty Pos", x, api.Goal{Pos: []int{}, Neg: only(all)}, 0)
	expect(t, "both empty", x, api.Goal{Pos: []int{}, Neg: []int{}}, 1)
	for i, node := range x.Nodes {
		if len(node.Kids) == 0 {
			x.Nodes[i].Kids = []int{}
		}
		if len(node.Fields) == 0 {
			x.Nodes[i].Fields = []api.Field{}
		}
	}
	expect(t, "empty Kids", x, in(deep), 4)
}
