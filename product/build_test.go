package product_test

import (
	"fmt"
	"math"
	"slices"
	"testing"

	"semtype/api"
	"semtype/lines"
	"semtype/samples"
	"semtype/typeexpr"
	"semtype/value"
)

const (
	least    = math.MinInt64
	greatest = math.MaxInt64
)

var (
	graph = samples.Graph
	kind  = samples.Node
	text  = samples.Text
	from  = samples.Range
	label = value.WithLabels
)

func show(x any) string { return fmt.Sprintf("%+v", x) }

// rows makes rows of this width out of the indices.
func rows(width int, indices ...int) (l [][]int) {
	for row := range slices.Chunk(indices, width) {
		l = append(l, row)
	}
	return l
}

// part returns the goal with these indices in Pos and Neg.
func part(pos []int, neg ...int) api.Goal { return api.Goal{Pos: pos, Neg: neg} }

func only(l ...int) []int { return l }

func box(parts ...api.Goal) api.Box { return api.Box{Parts: parts} }

// element is an element of sets that are assigned to indices: it is in the sets of these. So the elements for all lists of the indices that occur show what holds for every assignment.
type element map[int]bool

func inRow(list []element, row []int) bool {
	for i, n := range row {
		if !list[i][n] {
			return false
		}
	}
	return true
}

// isWanted follows the words of P10.1 for the rows.
func isWanted(list []element, pos, neg [][]int) bool {
	out := func(row []int) bool { return !inRow(list, row) }
	return !slices.ContainsFunc(pos, out) && !slices.ContainsFunc(neg, func(row []int) bool { return inRow(list, row) })
}

// isIn follows the words of P10.1 for boxes.
func isIn(list []element, boxes []api.Box) bool {
	return slices.ContainsFunc(boxes, func(b api.Box) bool {
		for i, g := range b.Parts {
			out := func(n int) bool { return !list[i][n] }
			if slices.ContainsFunc(g.Pos, out) || slices.ContainsFunc(g.Neg, func(n int) bool { return list[i][n] }) {
				return false
			}
		}
		return true
	})
}

// wellFormed checks the form of the boxes.
func wellFormed(t *testing.T, width int, boxes []api.Box) {
	t.Helper()
	for _, b := range boxes {
		if len(b.Parts) != width {
			t.Fatalf("%+v should have %d parts", b, width)
		}
		for _, g := range b.Parts {
			isBoth := func(n int) bool { return slices.Contains(g.Neg, n) }
			if show(lines.Normal(g)) != show(g) || g.Lists || slices.ContainsFunc(g.Pos, isBoth) {
				t.Fatalf("%+v in %+v", g, b)
			}
		}
	}
}

// indicesOf returns the indices of the rows and boxes, each once.
func indicesOf(pos, neg [][]int, boxes []api.Box) []int {
	l := slices.Concat(slices.Concat(pos...), slices.Concat(neg...))
	for _, b := range boxes {
		for _, g := range b.Parts {
			l = slices.Concat(l, g.Pos, g.Neg)
		}
	}
	slices.Sort(l)
	return slices.Compact(l)
}

// listOf returns the list of this number among all lists.
func listOf(number, width int, indices []int) []element {
	list := make([]element, width)
	for i := range list {
		list[i] = element{}
		for _, n := range indices {
			list[i][n] = number&1 > 0
			number >>= 1
		}
	}
	return list
}

// mustBeWellFormed keeps a mistake in a test from passing as a type without members.
func mustBeWellFormed(t *testing.T, x api.Type) {
	t.Helper()
	if code := typeexpr.WellFormed(x); code != api.OK {
		t.Fatalf("%v: %+v", code, x)
	}
}
