package record_test

import (
	"slices"
	"strconv"
	"testing"

	"semtype/api"
	rec "semtype/record"
	"semtype/samples"
	"semtype/value"
)

// R1: nodes that are there many times, or that are violated in the same way, take no time each on its own.
func TestManyNodes(t *testing.T) {
	const number = 1 << 14
	x := graph(kind(api.TAny), kind(api.TNone), from(0, 9))
	var closed, open, same, fields, ranges []int
	add := func(l *[]int, node api.TypeNode) {
		*l = append(*l, len(x.Nodes))
		x.Nodes = append(x.Nodes, node)
	}
	for i := range number {
		add(&closed, record(1, 1))
		add(&open, record(0, 0))
		add(&same, record(1, 1, field("a", 2), optional("b", 2)))
		var node []int
		add(&node, from(least, int64(i)))
		add(&fields, record(0, 0, field("a", node[0])))
		add(&ranges, record(node[0], 0))
	}
	mustBeWellFormed(t, x)
	for i, c := range []struct {
		pos, neg []int
		shapes   int
	}{
		{nil, slices.Repeat(closed[:1], number), 2},
		{nil, closed, 2},
		{closed, closed, 0},
		{open, nil, 1},
		{nil, open, 0},
		{nil, same, 5},
		{same, same, 0},
		{closed, fields, 1},
		{nil, fields, 2},
		{fields, nil, 1},
		{nil, ranges, 1},
		{fields, closed, 1},
		{ranges, closed, 2},
		{open[:1], slices.Concat(fields, closed, same), 9},
	} {
		shapes, code := rec.Shapes(x, api.Line{Kind: api.VMap, Pos: c.pos, Neg: c.neg})
		if len(shapes) != c.shapes || code != api.OK {
			t.Error(i, len(shapes), code)
		}
	}
}

// R1: unions of maps with tags, each of which has nodes of its own, do not try what cannot be.
func TestTags(t *testing.T) {
	const number = 40
	x := graph(kind(api.TNone))
	var maps []int
	for i := range number {
		n := len(x.Nodes)
		tag := text(api.TAtom, "t"+strconv.Itoa(i))
		fields := []api.Field{field("a", n), field("b", n+1), field("c", n+2), field("tag", n+3)}
		x.Nodes = append(x.Nodes, from(least, int64(i)), from(int64(-i), greatest), kind(api.TAtoms), tag, record(0, 0, fields...))
		maps = append(maps, n+4)
	}
	mustBeWellFormed(t, x)
	for i := range maps {
		others := slices.Delete(slices.Clone(maps), i, i+1)
		shapes, _ := rec.Shapes(x, api.Line{Kind: api.VMap, Pos: maps[i : i+1], Neg: others})
		if len(shapes) != 1 || len(shapes[0].Parts[3].Neg) != 0 {
			t.Error(i, len(shapes))
		}
		if shapes, _ := rec.Shapes(x, api.Line{Kind: api.VMap, Pos: maps[i : i+1], Neg: maps}); len(shapes) > 0 {
			t.Error(i, len(shapes))
		}
	}
}

// R8: maps with many fields, and values with many keys.
func TestLargeMaps(t *testing.T) {
	const number = 1 << 10
	x := graph(kind(api.TNone), from(0, greatest))
	var fields []api.Field
	v := api.Value{Kind: api.VMap}
	for i := range number {
		k := api.Key{Kind: api.KeyString, Text: strconv.Itoa(number + i)}
		x.Nodes = append(x.Nodes, from(0, int64(i)))
		fields = append(fields, api.Field{Key: k, Node: i + 2})
		v.Keys, v.Kids = append(v.Keys, k), append(v.Kids, value.Int(int64(i)))
	}
	first := len(x.Nodes)
	x.Nodes = append(x.Nodes, record(1, 0, fields...), record(1, 1), record(0, 0))
	mustBeWellFormed(t, x)
	shapes, code := rec.Shapes(x, api.Line{Kind: api.VMap, Pos: only(first, first+1), Neg: only(first + 2)})
	if len(shapes) != 1 || code != api.OK || len(shapes[0].Keys) != number {
		t.Fatal(len(shapes), code)
	}
	if m, code := rec.Sample(x, shapes[0], v.Kids, nil); code != api.OK || !value.Equal(m, v) {
		t.Error(code)
	}
	if !rec.InShape(v, x, shapes[0]) {
		t.Error("no member")
	}
	v.Kids[number-1] = value.Int(number)
	if rec.InShape(v, x, shapes[0]) {
		t.Error("member")
	}
	if shapes, _ := rec.Shapes(x, api.Line{Kind: api.VMap, Pos: only(first + 1), Neg: only(first)}); len(shapes) != 2*number+1 {
		t.Error(len(shapes))
	}
}

// R1: the document's limit of 2^16 levels.
func TestDeepValues(t *testing.T) {
	const levels = 1 << 16
	x := graph(kind(api.TUnion, 1, 2), kind(api.TNil), record(0, 0))
	v := value.Nil()
	for range levels - 1 {
		v = api.Value{Kind: api.VMap, Keys: keys("a"), Kids: []api.Value{v}} // value.Map copies all levels
	}
	shapes, _ := rec.Shapes(x, api.Line{Kind: api.VMap, Pos: only(2)})
	if len(shapes) != 1 || !rec.InShape(v, x, shapes[0]) || rec.InShape(samples.Dict("a", value.Tuple(v)), x, shapes[0]) {
		t.Error(shapes)
	}
	s := some(shape(part(nil), part(nil), at{"a", present, part(nil)}), 0, part(nil))
	if m, code := rec.Sample(x, s, []api.Value{v}, []api.Value{v}); code != api.OK || !rec.InShape(m, x, shapes[0]) {
		t.Error(code)
	}
}
