package record_test

import (
	"slices"
	"testing"

	"semtype/api"
	rec "semtype/record"
	"semtype/samples"
	"semtype/value"
)

func placesOfShape(s api.Shape) []any {
	all := append(append(samples.Places(s.Keys), samples.Places(s.States)...), samples.Places(s.Parts)...)
	all = append(all, samples.Places(s.Some)...)
	for _, g := range goalsOf(s) {
		all = append(all, samples.PlacesOfGoal(g)...)
	}
	return all
}

// roomy returns the goal with room behind its indices.
func roomy(g api.Goal) api.Goal {
	return api.Goal{Pos: samples.WithRoom(g.Pos), Neg: samples.WithRoom(g.Neg), Lists: g.Lists}
}

// roomyShape returns the shape with room behind the elements of its lists.
func roomyShape(s api.Shape) api.Shape {
	s.Keys, s.States, s.Parts, s.Some = samples.WithRoom(s.Keys), samples.WithRoom(s.States), samples.WithRoom(s.Parts), samples.WithRoom(s.Some)
	for i, g := range s.Parts {
		s.Parts[i] = roomy(g)
	}
	for i, g := range s.Rest {
		s.Rest[i] = roomy(g)
	}
	for i, e := range s.Some {
		s.Some[i].Goal = roomy(e.Goal)
	}
	return s
}

// stateOfShape shows the shape and what is behind the elements of its lists.
func stateOfShape(s api.Shape) string {
	text := show(s.Keys[:cap(s.Keys)]) + show(s.States[:cap(s.States)]) + show(s.Parts[:cap(s.Parts)]) + show(s.Some[:cap(s.Some)])
	for _, g := range goalsOf(s) {
		text += show(g.Pos[:cap(g.Pos)]) + show(g.Neg[:cap(g.Neg)])
	}
	return text
}

// roomyType returns the type with room behind its nodes and fields.
func roomyType(x api.Type) api.Type {
	x.Nodes = samples.WithRoom(x.Nodes)
	for i := range x.Nodes {
		x.Nodes[i].Fields = samples.WithRoom(x.Nodes[i].Fields)
	}
	return x
}

func stateOfType(x api.Type) string {
	text := show(x.Nodes[:cap(x.Nodes)])
	for _, node := range x.Nodes {
		text += show(node.Fields[:cap(node.Fields)])
	}
	return text
}

// R2: neither the type nor the line is changed or kept, and no two slices of shapes share memory.
func TestMemoryOfShapes(t *testing.T) {
	x := roomyType(places(t))
	for _, l := range []api.Line{
		{Kind: api.VMap, Pos: only(11, 6, 11), Neg: only(22, 18, 20)}, {Kind: api.VMap, Pos: only(19)}, {Kind: api.VMap, Neg: only(9, 8, 7)}, {Kind: api.VMap, Pos: only(12, 7), Neg: only(11)}, {Kind: api.VMap},
		{Kind: api.VMap, Pos: only(17), Neg: only(18)}, {Kind: api.VMap, Pos: only(17, 1), Neg: only(18)}, {Kind: api.VFun, Pos: only(17)},
	} {
		l.Pos, l.Neg = samples.WithRoom(l.Pos), samples.WithRoom(l.Neg)
		l.Vars, l.NotVars = samples.WithRoom([]string{"B", "A", "B"}), samples.WithRoom([]string{"D", "C"})
		state := func() string {
			return stateOfType(x) + show(l.Pos[:cap(l.Pos)]) + show(l.Neg[:cap(l.Neg)]) + show(l.Vars[:cap(l.Vars)]) + show(l.NotVars[:cap(l.NotVars)])
		}
		before := state()
		first, code := rec.Shapes(x, l)
		second, _ := rec.Shapes(x, l)
		result := append(samples.Places(first), samples.Places(second)...)
		for _, s := range append(first[:len(first):len(first)], second...) {
			result = append(result, placesOfShape(s)...)
		}
		if samples.Shared(append(samples.PlacesOfType(x), samples.PlacesOfLine(l)...), result) {
			t.Error(l, "shares memory")
		}
		if isPossible := l.Kind == api.VMap && !slices.Contains(l.Pos, 17); (code == api.OK && len(first) > 0) != isPossible {
			t.Error(l, code, first)
		}
		if state() != before {
			t.Error(l, "an argument is changed")
		}
	}
}

// R2: InShape and Sample change nothing, and the map of Sample is new memory.
func TestMemoryOfMaps(t *testing.T) {
	x := roomyType(leaves(t))
	s := roomyShape(some(some(shape(part(only(0, 0)), part(nil, 1), at{"a", present, digit}, at{"b", either, part(only(0, 0), 1)}, at{"c", absent, api.Goal{}}), 1, atom), 0, digit))
	parts := samples.WithRoom([]api.Value{value.Int(1), value.Nil(), value.Tuple()})
	rest := samples.WithRoom([]api.Value{label(value.Atom("a"), "B", "C"), value.Int(2)})
	parts[0].Labels = samples.WithRoom([]string{"A"})
	state := func() string {
		return stateOfType(x) + stateOfShape(s) + show(parts[:cap(parts)]) + show(rest[:cap(rest)]) + show(parts[0].Labels[:cap(parts[0].Labels)])
	}
	before := state()
	m, code := rec.Sample(x, s, parts, rest)
	n, _ := rec.Sample(x, s, parts, rest)
	given := append(placesOfShape(s), samples.PlacesOfType(x)...)
	for _, v := range append(parts[:len(parts):len(parts)], rest...) {
		given = append(given, samples.PlacesOfValue(v)...)
	}
	given = append(append(given, samples.Places(parts)...), samples.Places(rest)...)
	if code != api.OK || samples.Shared(given, append(samples.PlacesOfValue(m), samples.PlacesOfValue(n)...)) {
		t.Error(m, code, "shares memory")
	}
	if !rec.InShape(m, x, s) || rec.InShape(dict(), x, s) || state() != before {
		t.Error("an argument is changed")
	}
}

// R3: nil and empty slices are the same.
func TestEmptySlices(t *testing.T) {
	x := places(t)
	wanted, _ := rec.Shapes(x, api.Line{Kind: api.VMap})
	empty := api.Line{Kind: api.VMap, Pos: []int{}, Neg: []int{}, Vars: []string{}, NotVars: []string{}}
	if shapes, code := rec.Shapes(x, empty); len(shapes) != 1 || show(shapes) != show(wanted) || code != api.OK {
		t.Error(shapes, code)
	}
	none := api.Goal{Pos: []int{}, Neg: []int{}}
	s := api.Shape{Keys: []api.Key{}, States: []int{}, Parts: []api.Goal{}, Rest: [2]api.Goal{none, none}, Some: []api.SomeKey{}}
	for _, v := range []api.Value{dict(), dict("a", value.Int(1)), {Kind: api.VMap, Keys: []api.Key{}, Kids: []api.Value{}, Labels: []string{}}} {
		if !rec.InShape(v, x, s) || !rec.InShape(v, x, api.Shape{}) {
			t.Error(v)
		}
	}
	if m, code := rec.Sample(x, s, []api.Value{}, []api.Value{}); !value.Equal(m, dict()) || code != api.OK {
		t.Error(m, code)
	}
	if m, code := rec.Sample(x, api.Shape{Keys: keys("a")}, []api.Value{}, nil); m.Kind != 0 || code != api.ErrInvalid {
		t.Error(m, code)
	}
}

// R5: the same arguments give the same shapes, and the order of the nodes of a line does not matter.
func TestRepeated(t *testing.T) {
	x := places(t)
	for _, neg := range upToTwo() {
		first, _ := rec.Shapes(x, api.Line{Kind: api.VMap, Pos: only(6, 14), Neg: append(only(22, 20), neg...)})
		for range 3 {
			again, _ := rec.Shapes(x, api.Line{Kind: api.VMap, Pos: only(14, 6, 14), Neg: append(neg[:len(neg):len(neg)], 20, 22, 20)})
			if show(again) != show(first) {
				t.Fatal(neg)
			}
		}
	}
}
