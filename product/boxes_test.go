package product_test

import (
	"math/rand"
	"slices"
	"testing"

	"semtype/api"
	"semtype/product"
)

// checkBoxes checks the boxes of these rows: their form, and for all lists of elements, or some if there are too many, that those of the rows are in some box. It returns how many are.
func checkBoxes(t *testing.T, r *rand.Rand, width int, pos, neg [][]int) (found int) {
	t.Helper()
	boxes := product.Boxes(width, pos, neg)
	wellFormed(t, width, boxes)
	indices := indicesOf(pos, neg, boxes)
	bits := width * len(indices)
	for i := range min(1<<bits, 1<<10) {
		if bits > 10 {
			i = r.Intn(1 << bits)
		}
		list := listOf(i, width, indices)
		is := isWanted(list, pos, neg)
		if is {
			found++
		}
		if isIn(list, boxes) != is {
			t.Fatalf("%v in %v less %v should be %v, and the boxes are %+v", list, pos, neg, is, boxes)
		}
	}
	return found
}

// Example 1.
func TestExampleBoxes(t *testing.T) {
	boxes := product.Boxes(2, rows(2, 1, 2), rows(2, 3, 4))
	wanted := []api.Box{
		box(part(only(1), 3), part(only(2))),
		box(part(only(1)), part(only(2), 4)),
	}
	if show(boxes) != show(wanted) {
		t.Error(boxes)
	}
}

// Example 2, and the other cases of width 0.
func TestWidthZero(t *testing.T) {
	for _, rows := range [][][]int{{{}}, {nil}, {{}, {}}, {nil, {}, nil}} {
		for _, pos := range [][][]int{nil, {}, {{}}, {nil, {}}} {
			if boxes := product.Boxes(0, pos, rows); len(boxes) > 0 {
				t.Error(pos, rows, boxes)
			}
		}
		if boxes := product.Boxes(0, rows, nil); len(boxes) != 1 || len(boxes[0].Parts) > 0 {
			t.Error(rows, boxes)
		}
	}
	for _, none := range [][][]int{nil, {}} {
		if boxes := product.Boxes(0, none, none); len(boxes) != 1 || len(boxes[0].Parts) > 0 {
			t.Error(boxes)
		}
	}
}

// P10.1: what the boxes of some rows are, as far as the document leaves no choice.
func TestBoxes(t *testing.T) {
	for i, c := range []struct {
		width    int
		pos, neg [][]int
		wanted   []api.Box
	}{
		{1, nil, nil, []api.Box{box(part(nil))}},
		{4, nil, nil, []api.Box{box(part(nil), part(nil), part(nil), part(nil))}},
		{1, rows(1, 5), nil, []api.Box{box(part(only(5)))}},
		{1, nil, rows(1, 5), []api.Box{box(part(nil, 5))}},
		{1, rows(1, 7, 5, 7), rows(1, 9, 8, 9), []api.Box{box(part(only(5, 7), 8, 9))}},
		{1, rows(1, 5), rows(1, 5), nil},
		{1, rows(1, 6, 5), rows(1, 7, 5), nil},
		{2, rows(2, 1, 2), rows(2, 1, 2), nil},
		{2, rows(2, 1, 2, 3, 4), rows(2, 3, 2), nil},
		{2, rows(2, 1, 2), rows(2, 2, 1), []api.Box{box(part(only(1), 2), part(only(2))), box(part(only(1)), part(only(2), 1))}},
		{2, rows(2, 1, 1), rows(2, 1, 2), []api.Box{box(part(only(1)), part(only(1), 2))}},
		{2, rows(2, 1, 2), rows(2, 1, 3, 4, 2), []api.Box{box(part(only(1), 4), part(only(2), 3))}},
		{2, nil, rows(2, 0, 0), []api.Box{box(part(nil, 0), part(nil)), box(part(nil), part(nil, 0))}},
		{3, rows(3, 2, 1, 0, 0, 1, 2, 1, 1, 1), nil, []api.Box{box(part(only(0, 1, 2)), part(only(1)), part(only(0, 1, 2)))}},
		{3, rows(3, 1, 2, 3), rows(3, 1, 2, 4, 1, 2, 5, 1, 2, 4), []api.Box{box(part(only(1)), part(only(2)), part(only(3), 4, 5))}},
		{4, rows(4, 1, 2, 3, 4, 5, 6, 7, 8), rows(4, 1, 9, 3, 8), []api.Box{box(part(only(1, 5)), part(only(2, 6), 9), part(only(3, 7)), part(only(4, 8)))}},
		{2, rows(2, -1, least), rows(2, -1, greatest), []api.Box{box(part(only(-1)), part(only(least), greatest))}},
	} {
		boxes := product.Boxes(c.width, c.pos, c.neg)
		if show(boxes) != show(c.wanted) {
			t.Error(i, boxes)
		}
		checkBoxes(t, rand.New(rand.NewSource(1)), c.width, c.pos, c.neg)
	}
}

// P10.1: all lists of up to two rows of pos and three of neg, of each width up to 2, over two indices.
func TestAllRows(t *testing.T) {
	r := rand.New(rand.NewSource(1))
	for width, all := range [][][]int{{{}}, {{1}, {2}}, {{1, 1}, {1, 2}, {2, 1}, {2, 2}}} {
		for _, pos := range upTo(2, all) {
			for _, neg := range upTo(3, all) {
				checkBoxes(t, r, width, pos, neg)
			}
		}
	}
}

// upTo returns all lists of at most n of these rows.
func upTo(n int, all [][]int) [][][]int {
	lists := [][][]int{nil}
	for first := 0; n > 0; n-- {
		last := len(lists)
		for _, list := range lists[first:last] {
			for _, row := range all {
				lists = append(lists, append(slices.Clone(list), row))
			}
		}
		first = last
	}
	return lists
}

func someRows(r *rand.Rand, width, number, indices int) [][]int {
	l := make([][]int, number)
	for i := range l {
		if i > 0 && r.Intn(5) == 0 {
			l[i] = slices.Clone(l[r.Intn(i)])
			continue
		}
		for range width {
			l[i] = append(l[i], r.Intn(indices)-1)
		}
	}
	return l
}

// P10.1: random rows of each width, some of them more than once and in both lists.
func TestRandomRows(t *testing.T) {
	r := rand.New(rand.NewSource(10))
	found := map[bool]int{}
	for round := range 4000 {
		width := round % (api.MaxArity + 1)
		indices := 1 + r.Intn(6)
		pos, neg := someRows(r, width, r.Intn(3), indices), someRows(r, width, r.Intn(6), indices)
		if len(pos) > 0 && r.Intn(6) == 0 {
			neg = append(neg, slices.Clone(pos[0]))
		}
		if r.Intn(2) == 0 {
			pos = nil
		}
		found[checkBoxes(t, r, width, pos, neg) > 0]++
	}
	if found[true] < 1000 || found[false] < 500 {
		t.Error(found)
	}
}

// The boxes are those that are needed: none has all lists of another one for every assignment, and none is there twice.
func TestNoCoveredBoxes(t *testing.T) {
	r := rand.New(rand.NewSource(11))
	for range 500 {
		width := 1 + r.Intn(api.MaxArity)
		boxes := product.Boxes(width, someRows(r, width, r.Intn(2), 4), someRows(r, width, r.Intn(9), 7))
		for i, a := range boxes {
			for k, b := range boxes {
				if i != k && covers(a, b) {
					t.Fatal(a, b)
				}
			}
		}
	}
}

// covers reports whether a has all lists of b.
func covers(a, b api.Box) bool {
	for i, g := range a.Parts {
		other := b.Parts[i]
		isMissing := func(n int) bool { return !slices.Contains(other.Neg, n) }
		if slices.ContainsFunc(g.Neg, isMissing) || !slices.Equal(g.Pos, other.Pos) {
			return false
		}
	}
	return true
}

// P10.1: no boxes if the width is no arity, or a row has another width.
func TestInvalidRows(t *testing.T) {
	for _, width := range []int{-1, api.MaxArity + 1, 1 << 40, least, greatest} {
		row := make([]int, max(0, min(width, 6)))
		for _, c := range [][2][][]int{{}, {{row}, nil}, {nil, {row}}, {{row, row}, {row}}, {{nil}, {nil}}} {
			if boxes := product.Boxes(width, c[0], c[1]); len(boxes) > 0 {
				t.Error(width, c, boxes)
			}
		}
	}
	for width := range api.MaxArity + 1 {
		good := make([]int, width)
		for other := range api.MaxArity + 3 {
			bad := slices.Repeat([]int{1}, other)
			if other == width {
				continue
			}
			for _, l := range [][][]int{{bad}, {good, bad}, {bad, good}, {good, good, bad, good}} {
				for _, c := range [][2][][]int{{l, nil}, {nil, l}, {l, {good}}, {{good}, l}, {l, l}} {
					if boxes := product.Boxes(width, c[0], c[1]); len(boxes) > 0 {
						t.Error(width, c, boxes)
					}
				}
			}
		}
	}
}
