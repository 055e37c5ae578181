package product_test

import (
	"slices"
	"strconv"
	"testing"

	"semtype/api"
	"semtype/product"
	"semtype/samples"
	"semtype/value"
)

// R1: rows that are there many times, or that have an index in common, take no time each on its own.
func TestManyRows(t *testing.T) {
	const number = 1 << 16
	repeat := func(row ...int) [][]int { return slices.Repeat([][]int{row}, number) }
	with := func(row func(i int) []int) (l [][]int) {
		for i := range number {
			l = append(l, row(i))
		}
		return l
	}
	for i, c := range []struct {
		width    int
		pos, neg [][]int
		boxes    int
	}{
		{4, repeat(1, 2, 3, 4), repeat(5, 6, 7, 8), 4},
		{4, repeat(1, 2, 3, 4), repeat(5, 6, 3, 8), 3},
		{2, with(func(i int) []int { return only(i, -i) }), repeat(5, 1), 1},
		{0, repeat(), nil, 1},
		{0, repeat(), repeat(), 0},
		{1, nil, with(func(i int) []int { return only(i) }), 1},
		{1, rows(1, number/2), with(func(i int) []int { return only(i) }), 0},
		{2, nil, with(func(i int) []int { return only(0, i) }), 2},
		{2, nil, with(func(i int) []int { return only(-i, 0) }), 2},
		{3, nil, with(func(i int) []int { return only(1, i, 1) }), 3},
		{4, rows(4, 7, -1, 8, 9), with(func(i int) []int { return only(7, i, 8, 9) }), 1},
		{4, rows(4, 7, number-1, 8, 9), with(func(i int) []int { return only(7, i, 8, 9) }), 0},
		{2, nil, with(func(i int) []int { return only(i/256, i%256) }), 2},
	} {
		boxes := product.Boxes(c.width, c.pos, c.neg)
		wellFormed(t, c.width, boxes)
		if len(boxes) != c.boxes {
			t.Error(i, len(boxes))
		}
	}
}

// R1: the order of the rows does not matter, so that no choices are tried that later rows rule out.
func TestOrderOfRows(t *testing.T) {
	const number, inside = 40, -1
	var single, firsts, seconds, pairs [][]int
	for i := range number {
		single, firsts, seconds = append(single, only(i, i)), append(firsts, only(i, inside)), append(seconds, only(inside, i))
		for k := range number {
			pairs = append(pairs, only(i, k))
		}
	}
	impossible := rows(2, inside, inside)
	for i, c := range []struct {
		neg   [][]int
		boxes int
	}{
		{slices.Concat(single, firsts), 1},
		{slices.Concat(single, seconds), 1},
		{slices.Concat(single, pairs), 2},
		{slices.Concat(single, pairs, firsts), 1},
		{slices.Concat(single, pairs, seconds), 1},
		{slices.Concat(single, impossible), 0},
		{slices.Concat(pairs, impossible, single), 0},
	} {
		for range 2 {
			boxes := product.Boxes(2, impossible, c.neg)
			wellFormed(t, 2, boxes)
			if len(boxes) != c.boxes {
				t.Error(i, len(boxes))
			}
			slices.Reverse(c.neg)
		}
	}
}

// Rows without a common index have no fewer boxes than these.
func TestManyBoxes(t *testing.T) {
	for width, number := range []int{0, 1000, 12, 8, 6} {
		if width == 0 {
			continue
		}
		wanted := 1
		var neg [][]int
		for i := range number {
			wanted *= width
			neg = append(neg, slices.Repeat(only(i), width))
		}
		boxes := product.Boxes(width, nil, neg)
		wellFormed(t, width, boxes)
		if len(boxes) != wanted {
			t.Error(width, len(boxes))
		}
	}
}

// R8: types of every size, and lines with all their nodes.
func TestLargeTypes(t *testing.T) {
	const number = 1 << 15
	x := graph(kind(api.TNil))
	l := api.Line{Kind: api.VCons}
	for i := range number {
		x.Nodes = append(x.Nodes, from(int64(i), greatest), kind(api.TCons, 2*i+1, 0))
		l.Pos = append(l.Pos, 2*i+2)
	}
	mustBeWellFormed(t, x)
	boxes, code := product.Components(x, l)
	if code != api.OK || len(boxes) != 1 || len(boxes[0].Parts[0].Pos) != number {
		t.Fatal(len(boxes), code)
	}
	for n, is := range map[int64]bool{number - 2: false, number - 1: true} {
		if product.InBox([]api.Value{value.Int(n), value.Nil()}, x, boxes[0]) != is {
			t.Error(n)
		}
	}
	l.Pos, l.Neg = nil, l.Pos
	if boxes, code := product.Components(x, l); code != api.OK || len(boxes) != 2 {
		t.Error(len(boxes), code)
	}
}

// R1: tuples with different tags have no box for each choice of a part.
func TestTags(t *testing.T) {
	const number = 1 << 10
	x := graph(kind(api.TAny), text(api.TAtom, "tag"), kind(api.TTuple, 1, 2, 0))
	l := api.Line{Kind: api.VTuple, Arity: 3, Pos: only(2)}
	for i := range number {
		n := len(x.Nodes)
		x.Nodes = append(x.Nodes, text(api.TAtom, "tag"+strconv.Itoa(i)), from(0, int64(i)), kind(api.TTuple, n, n+1, n+1))
		l.Neg = append(l.Neg, n+2)
	}
	mustBeWellFormed(t, x)
	boxes, code := product.Components(x, l)
	if code != api.OK || len(boxes) != 1 || len(boxes[0].Parts[0].Neg) != 0 {
		t.Error(len(boxes), code)
	}
	l.Neg = append(l.Neg, 2)
	if boxes, code := product.Components(x, l); code != api.OK || len(boxes) != 0 {
		t.Error(len(boxes), code)
	}
}

// R1: the document's limit of 2^16 levels.
func TestDeepValues(t *testing.T) {
	const levels = 1 << 16
	x := graph(kind(api.TUnion, 1, 2), kind(api.TNil), kind(api.TTuple, 0))
	v := value.Nil()
	for range levels - 1 {
		v = api.Value{Kind: api.VTuple, Kids: []api.Value{v}} // value.Tuple copies all levels
	}
	boxes, _ := product.Components(x, api.Line{Kind: api.VTuple, Arity: 1, Pos: only(2)})
	if len(boxes) != 1 || !product.InBox([]api.Value{v}, x, boxes[0]) || product.InBox([]api.Value{samples.Dict("a", v)}, x, boxes[0]) {
		t.Error(boxes)
	}
}
