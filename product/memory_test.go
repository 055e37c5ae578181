package product_test

import (
	"fmt"
	"testing"

	"semtype/api"
	"semtype/product"
	"semtype/samples"
	"semtype/value"
)

func placesOfBoxes(boxes []api.Box) []any {
	all := samples.Places(boxes)
	for _, b := range boxes {
		all = append(all, samples.Places(b.Parts)...)
		for _, g := range b.Parts {
			all = append(all, samples.PlacesOfGoal(g)...)
		}
	}
	return all
}

func roomyRows(rows [][]int) [][]int {
	l := samples.WithRoom(rows)
	for i := range l {
		l[i] = samples.WithRoom(l[i])
	}
	return l
}

// stateOf shows the rows and what is behind them.
func stateOf(rows [][]int) string {
	s := fmt.Sprint(rows[:cap(rows)])
	for _, row := range rows {
		s += fmt.Sprint(row[:cap(row)])
	}
	return s
}

// R2: the rows are not changed, also not behind their elements, and no two slices share memory.
func TestMemoryOfRows(t *testing.T) {
	for _, c := range [][2][][]int{
		{rows(2, 5, 3, 4, 1, 4, 1), rows(2, 9, 8, 2, 3, 9, 8, 7, 6)}, {rows(2, 5, 3), nil}, {nil, rows(2, 9, 8, 2, 3)}, {nil, nil}, {nil, rows(2, 9, 8)},
	} {
		pos, neg := roomyRows(c[0]), roomyRows(c[1])
		before := stateOf(pos) + stateOf(neg)
		given := append(samples.Places(pos), samples.Places(neg)...)
		for _, row := range append(pos[:len(pos):len(pos)], neg...) {
			given = append(given, samples.Places(row)...)
		}
		result := append(placesOfBoxes(product.Boxes(2, pos, neg)), placesOfBoxes(product.Boxes(2, pos, neg))...)
		if len(result) < 4 || samples.Shared(given, result) {
			t.Error(c, "shares memory")
		}
		if stateOf(pos)+stateOf(neg) != before {
			t.Error(c, "is changed")
		}
	}
}

// R2: neither a type nor a line, values or a box are changed or kept.
func TestMemoryOfComponents(t *testing.T) {
	x := zoo(t)
	x.Nodes = samples.WithRoom(x.Nodes)
	for i := range x.Nodes {
		x.Nodes[i].Kids = samples.WithRoom(x.Nodes[i].Kids)
	}
	b := box(part(samples.WithRoom(only(3, 0, 0)), samples.WithRoom(only(2, 1, 2))...), part(samples.WithRoom(only(9, 4, 9))))
	v := samples.WithRoom([]api.Value{label(value.Int(1), "B", "C"), value.Atom("a")})
	for _, l := range []api.Line{
		{Kind: api.VTuple, Arity: 2, Pos: only(31, 25, 31), Neg: only(30, 29, 28, 29)}, {Kind: api.VTuple, Arity: 4, Neg: only(38, 37)}, {Kind: api.VCons, Pos: only(13, 11), Neg: only(12)}, {Kind: api.VCons}, {Kind: api.VTuple, Arity: 3, Pos: only(35)}, {Kind: api.VMap, Pos: only(35)}, {Kind: api.VCons, Pos: only(11, 35)},
	} {
		l.Pos, l.Neg = samples.WithRoom(l.Pos), samples.WithRoom(l.Neg)
		l.Vars, l.NotVars = samples.WithRoom([]string{"B", "A", "B"}), samples.WithRoom([]string{"D", "C"})
		state := func() string {
			s := fmt.Sprint(x.Nodes[:cap(x.Nodes)], v[:cap(v)], b, l.Pos[:cap(l.Pos)], l.Neg[:cap(l.Neg)], l.Vars[:cap(l.Vars)], l.NotVars[:cap(l.NotVars)])
			for _, g := range b.Parts {
				s += fmt.Sprint(g.Pos[:cap(g.Pos)], g.Neg[:cap(g.Neg)])
			}
			for _, node := range x.Nodes[:len(x.Nodes)] {
				s += fmt.Sprint(node.Kids[:cap(node.Kids)])
			}
			return s
		}
		before := state()
		first, code := product.Components(x, l)
		second, _ := product.Components(x, l)
		result := append(placesOfBoxes(first), placesOfBoxes(second)...)
		if samples.Shared(append(samples.PlacesOfType(x), samples.PlacesOfLine(l)...), result) || (code == api.OK) != (len(result) > 0) {
			t.Error(l, code, "shares memory, or has no result")
		}
		product.InBox(v, x, b)
		if state() != before {
			t.Error(l, "an argument is changed")
		}
	}
}

// R3: nil and empty slices are the same.
func TestEmptySlices(t *testing.T) {
	for width := range api.MaxArity + 1 {
		wanted := show(product.Boxes(width, nil, nil))
		if boxes := product.Boxes(width, [][]int{}, [][]int{}); len(boxes) != 1 || show(boxes) != wanted {
			t.Error(width, boxes)
		}
		empty := api.Line{Kind: api.VTuple, Arity: width, Pos: []int{}, Neg: []int{}, Vars: []string{}, NotVars: []string{}}
		if boxes, code := product.Components(zoo(t), empty); show(boxes) != wanted || code != api.OK {
			t.Error(width, boxes, code)
		}
	}
	if boxes := product.Boxes(1, [][]int{nil}, nil); len(boxes) > 0 {
		t.Error(boxes)
	}
	x := zoo(t)
	if !product.InBox([]api.Value{}, x, api.Box{}) || !product.InBox(nil, x, api.Box{Parts: []api.Goal{}}) {
		t.Error("no values and no parts")
	}
	one := []api.Value{value.Int(1)}
	if !product.InBox(one, x, box(api.Goal{Pos: []int{}, Neg: []int{}})) || product.InBox(one, x, api.Box{Parts: []api.Goal{}}) {
		t.Error("one value")
	}
}

// R5: the same arguments give the same boxes.
func TestRepeated(t *testing.T) {
	x := zoo(t)
	for _, l := range linesWithout() {
		nodes := nodesOf(x, l)
		l.Pos, l.Neg = nodes[:1], nodes[1:]
		first, _ := product.Components(x, l)
		for range 20 {
			if boxes, _ := product.Components(x, l); show(boxes) != show(first) {
				t.Fatal(l)
			}
		}
	}
}
