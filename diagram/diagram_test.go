package diagram_test

import (
	"fmt"
	"math"
	"slices"
	"testing"

	"semtype/api"
	"semtype/diagram"
)

// nodes makes a diagram of rows {literal, high, low}.
func nodes(root int, rows ...[3]int) api.Diagram {
	d := api.Diagram{Root: root}
	for _, row := range rows {
		d.Nodes = append(d.Nodes, api.DiagramNode{Literal: row[0], High: row[1], Low: row[2]})
	}
	return d
}

func literal(t *testing.T, n int) api.Diagram {
	t.Helper()
	d, code := diagram.Literal(n)
	if code != api.OK {
		t.Fatalf("Literal(%d): %v", n, code)
	}
	return d
}

func path(pos, neg []int) api.Path { return api.Path{Pos: pos, Neg: neg} }

func samePaths(a, b []api.Path) bool {
	return slices.EqualFunc(a, b, func(p, q api.Path) bool { return slices.Equal(p.Pos, q.Pos) && slices.Equal(p.Neg, q.Neg) })
}

// badLiterals are outside of 0 to MaxDiagram - 1.
var badLiterals = []int{math.MinInt, -64, -1, api.MaxDiagram, api.MaxDiagram + 1, 63, 64, 65, math.MaxInt}

// The examples of the chapter.
func TestExamples(t *testing.T) {
	d := diagram.And(literal(t, 0), diagram.Not(literal(t, 1)))
	want(t, "example 1", d, nodes(3, [3]int{1, 0, 1}, [3]int{0, 2, 0}))
	if got := diagram.Paths(d); !samePaths(got, []api.Path{path([]int{0}, []int{1})}) {
		t.Errorf("example 1: paths %v", got)
	}
	for n := range api.MaxDiagram {
		l := literal(t, n)
		want(t, "example 2", diagram.Or(l, diagram.Not(l)), diagram.True())
		want(t, "example 2", diagram.Or(diagram.Not(l), l), diagram.True())
		want(t, "a literal and its negation", diagram.And(l, diagram.Not(l)), diagram.False())
	}
}

// P6.2, P6.3, P6.4: the constants.
func TestConstants(t *testing.T) {
	no, yes := diagram.False(), diagram.True()
	want(t, "False", no, nodes(0))
	want(t, "True", yes, nodes(1))
	want(t, "Not of false", diagram.Not(no), yes)
	want(t, "Not of true", diagram.Not(yes), no)
	for _, d := range []api.Diagram{no, yes} {
		value := d.Root == 1
		if !diagram.Valid(d) || diagram.Evaluate(d, 0) != value || diagram.Evaluate(d, math.MaxUint) != value {
			t.Errorf("%v: Valid or Evaluate", d)
		}
		if got := diagram.Support(d); len(got) > 0 {
			t.Errorf("Support(%v) = %v", d, got)
		}
		want(t, "Restrict", diagram.Restrict(d, 0, true), d)
		want(t, "And with itself", diagram.And(d, d), d)
		want(t, "Or with itself", diagram.Or(d, d), d)
		want(t, "And", diagram.And(no, d), no)
		want(t, "Or", diagram.Or(yes, d), yes)
	}
	if got := diagram.Paths(no); len(got) > 0 {
		t.Errorf("paths of false: %v", got)
	}
	if got := diagram.Paths(yes); !samePaths(got, []api.Path{{}}) {
		t.Errorf("paths of true: %v", got)
	}
}

// P6.2, P6.3, P6.4: one literal and its negation.
func TestLiteral(t *testing.T) {
	for n := range api.MaxDiagram {
		l := literal(t, n)
		want(t, "Literal", l, nodes(2, [3]int{n, 1, 0}))
		not := diagram.Not(l)
		want(t, "Not", not, nodes(2, [3]int{n, 0, 1}))
		for m := range 16 {
			if diagram.Evaluate(l, 1<<m) != (m == n) || diagram.Evaluate(not, ^uint(1<<m)) != (m == n) {
				t.Errorf("literal %d where %d differs", n, m)
			}
		}
		if got := diagram.Support(not); !slices.Equal(got, []int{n}) {
			t.Errorf("Support of literal %d: %v", n, got)
		}
		if got := diagram.Paths(not); !samePaths(got, []api.Path{path(nil, []int{n})}) {
			t.Errorf("paths of the negation of %d: %v", n, got)
		}
	}
	for _, n := range badLiterals {
		if d, code := diagram.Literal(n); code != api.ErrInvalid || d.Root != 0 || d.Nodes != nil {
			t.Errorf("Literal(%d) = %v, %v", n, d, code)
		}
	}
}

// P6.2: a literal that is fixed, one that d does not depend on, and one that does not exist.
func TestRestrict(t *testing.T) {
	// (0 and 3) or (not 0 and 11)
	d := nodes(4, [3]int{3, 1, 0}, [3]int{11, 1, 0}, [3]int{0, 2, 3})
	want(t, "the first literal true", diagram.Restrict(d, 0, true), nodes(2, [3]int{3, 1, 0}))
	want(t, "the first literal false", diagram.Restrict(d, 0, false), nodes(2, [3]int{11, 1, 0}))
	want(t, "a literal on one side", diagram.Restrict(d, 3, true), nodes(3, [3]int{11, 1, 0}, [3]int{0, 1, 2}))
	want(t, "a literal on one side", diagram.Restrict(d, 3, false), nodes(3, [3]int{11, 1, 0}, [3]int{0, 0, 2}))
	want(t, "the last literal true", diagram.Restrict(d, 11, true), nodes(3, [3]int{3, 1, 0}, [3]int{0, 2, 1}))
	for _, n := range append([]int{1, 2, 4, 10}, badLiterals...) {
		for _, value := range []bool{false, true} {
			want(t, fmt.Sprint("literal ", n), diagram.Restrict(d, n, value), d)
		}
	}
	twice := diagram.Restrict(diagram.Restrict(d, 0, true), 0, false)
	want(t, "a literal that is fixed already", twice, diagram.Restrict(d, 0, true))
	want(t, "nodes that become equal", diagram.Restrict(nodes(5, [3]int{2, 1, 0}, [3]int{1, 2, 0}, [3]int{1, 0, 2}, [3]int{0, 3, 4}), 2, false), diagram.False())
}

// P6.3: Support is ascending where the walk finishes the literals in another order.
func TestSupport(t *testing.T) {
	d := nodes(5, [3]int{7, 1, 0}, [3]int{4, 2, 0}, [3]int{9, 1, 0}, [3]int{0, 3, 4})
	if got := diagram.Support(d); !slices.Equal(got, []int{0, 4, 7, 9}) {
		t.Errorf("got %v", got)
	}
}

// P6.4: the order of the paths of a diagram with nodes that are shared.
func TestPaths(t *testing.T) {
	// 0 xor 1 xor 2
	d := nodes(6, [3]int{2, 1, 0}, [3]int{2, 0, 1}, [3]int{1, 2, 3}, [3]int{1, 3, 2}, [3]int{0, 4, 5})
	wanted := []api.Path{path([]int{0, 1, 2}, nil), path([]int{0}, []int{1, 2}), path([]int{1}, []int{0, 2}), path([]int{2}, []int{0, 1})}
	if got := diagram.Paths(d); !samePaths(got, wanted) {
		t.Errorf("got %v", got)
	}
	// 0 or 2: literal 2 occurs on one way only, and literal 1 on none.
	d = nodes(3, [3]int{2, 1, 0}, [3]int{0, 1, 2})
	if got := diagram.Paths(d); !samePaths(got, []api.Path{path([]int{0}, nil), path([]int{2}, []int{0})}) {
		t.Errorf("got %v", got)
	}
}

// P6.4: paths with no literals, with a literal on both sides, with literals out of order or twice, and no paths at all.
func TestFromPaths(t *testing.T) {
	and := nodes(4, [3]int{11, 0, 1}, [3]int{5, 2, 0}, [3]int{0, 3, 0})
	cases := []struct {
		paths  []api.Path
		wanted api.Diagram
	}{
		{nil, diagram.False()},
		{[]api.Path{}, diagram.False()},
		{[]api.Path{{}}, diagram.True()},
		{[]api.Path{path([]int{}, []int{})}, diagram.True()},
		{[]api.Path{path([]int{3}, nil), {}}, diagram.True()},
		{[]api.Path{path([]int{0, 5}, []int{11})}, and},
		{[]api.Path{path([]int{5, 0}, []int{11})}, and},
		{[]api.Path{path([]int{5, 0, 5, 5, 0}, []int{11, 11})}, and},
		{[]api.Path{path([]int{5, 0}, []int{11}), path([]int{0, 5}, []int{11, 11})}, and},
		{[]api.Path{path([]int{0, 5, 7}, []int{11}), path([]int{0, 5}, []int{7, 11})}, and},
		{[]api.Path{path([]int{0, 5}, []int{11}), path([]int{4}, []int{4})}, and},
		{[]api.Path{path([]int{0, 5}, []int{11}), path([]int{4, 0, 5}, []int{11})}, and},
		{[]api.Path{path([]int{4}, []int{4})}, diagram.False()},
		{[]api.Path{path([]int{0}, []int{0}), path([]int{11}, []int{11})}, diagram.False()},
		{[]api.Path{path([]int{1, 0}, []int{2, 3, 1})}, diagram.False()},
		{[]api.Path{path([]int{6}, nil), path(nil, []int{6})}, diagram.True()},
		{[]api.Path{path([]int{1}, nil), path([]int{0}, nil)}, nodes(3, [3]int{1, 1, 0}, [3]int{0, 1, 2})},
	}
	for _, c := range cases {
		d, code := diagram.FromPaths(c.paths)
		if code != api.OK {
			t.Errorf("FromPaths(%v): %v", c.paths, code)
		}
		want(t, fmt.Sprint(c.paths), d, c.wanted)
	}
}

// P6.4: a literal out of range, wherever it is.
func TestFromPathsOutOfRange(t *testing.T) {
	for _, n := range badLiterals {
		for _, paths := range [][]api.Path{
			{path([]int{n}, nil)}, {path(nil, []int{n})}, {path([]int{n}, []int{n})},
			{path([]int{0, 1, n}, []int{2})}, {path([]int{0, 1}, []int{2, 2, n})}, {path([]int{n, 0}, nil)},
			{{}, path([]int{n}, nil)}, {path([]int{1}, []int{1}), path(nil, []int{0, n})}, {path([]int{1}, []int{1, n})},
		} {
			if d, code := diagram.FromPaths(paths); code != api.ErrInvalid || d.Root != 0 || d.Nodes != nil {
				t.Errorf("FromPaths(%v) = %v, %v", paths, d, code)
			}
		}
	}
}

// P6.4: many paths, most of them the same or with a late literal only.
func TestFromManyPaths(t *testing.T) {
	var paths []api.Path
	for i := range 200000 {
		paths = append(paths, path([]int{11, 10 - i%2}, nil))
	}
	d, code := diagram.FromPaths(paths)
	if code != api.OK {
		t.Fatal(code)
	}
	want(t, "many paths", d, nodes(4, [3]int{11, 1, 0}, [3]int{10, 2, 0}, [3]int{9, 2, 3}))
}

// P6.4: each path of at most one value for each of the literals but the last one.
func TestFromAllPaths(t *testing.T) {
	paths := []api.Path{path([]int{11}, nil)}
	for n := range api.MaxDiagram - 1 {
		for _, p := range slices.Clone(paths) {
			paths = append(paths, path(append(slices.Clone(p.Pos), n), p.Neg), path(p.Pos, append(slices.Clone(p.Neg), n)))
		}
	}
	d, code := diagram.FromPaths(paths[1:])
	if code != api.OK {
		t.Fatal(code)
	}
	want(t, "all paths", d, nodes(2, [3]int{11, 1, 0}))
}
