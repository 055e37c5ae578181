package lines_test

import (
	"slices"
	"strconv"
	"testing"

	"semtype/api"
	"semtype/lines"
	"semtype/value"
)

// chain has connectives of these kinds in turn, each over the next one alone or twice, and the nodes at the end.
func chain(levels int, kinds []int, end ...api.TypeNode) api.Type {
	var x api.Type
	for i := range levels {
		k := kinds[i%len(kinds)]
		node := kind(k, i+1)
		if k != api.TNot {
			node.Kids = append(node.Kids, i+1)
		}
		x.Nodes = append(x.Nodes, node)
	}
	x.Nodes = append(x.Nodes, end...)
	return x
}

// R1: the document's limit of 2^16 levels, with many ways down.
func TestDeepConnectives(t *testing.T) {
	const levels = 1 << 16
	for _, kinds := range [][]int{{api.TNot}, {api.TUnion}, {api.TInter}, {api.TUnion, api.TInter}, {api.TNot, api.TUnion, api.TNot, api.TInter}} {
		x := chain(levels, kinds, kind(api.TTuple))
		for _, g := range []api.Goal{goal([]int{0}, nil), goal([]int{0, levels}, nil)} {
			if l := lines.Lines(x, g); show(l) != show([]api.Line{{Kind: api.VTuple, Pos: []int{levels}}}) {
				t.Error(kinds, l)
			}
		}
		if l := lines.Lines(x, goal([]int{levels}, []int{0})); len(l) > 0 {
			t.Error(kinds, l)
		}
		if !lines.InGoal(value.Tuple(), x, goal([]int{0, 1 << 15}, nil)) || lines.InGoal(value.Nil(), x, goal([]int{0, levels}, nil)) {
			t.Error(kinds)
		}
	}
}

// R1: many ways to the same lines, or to the same integers, are not gone one by one.
func TestManyWays(t *testing.T) {
	const levels = 60
	for _, c := range []struct {
		a, b   api.TypeNode
		wanted []api.Line
	}{
		{kind(api.TTuple, 0), kind(api.TTuple, 1), []api.Line{{Kind: api.VTuple, Arity: 1, Pos: []int{0}}, {Kind: api.VTuple, Arity: 1, Pos: []int{1}}}},
		{from(0, 5), from(3, 9), []api.Line{{Kind: api.VInt, Ints: []api.Range{{Lo: 0, Hi: 9}}}}},
		{text(api.TVar, "A"), kind(api.TPid), []api.Line{{Kind: api.VPid}}},
	} {
		// Each level has a union of two intersections, of a or b with the next level.
		x := graph(c.a, c.b)
		for i := range levels {
			next := 3*i + 5
			x.Nodes = append(x.Nodes, kind(api.TUnion, next-2, next-1), kind(api.TInter, 0, next), kind(api.TInter, next, 1))
		}
		x.Nodes = append(x.Nodes, kind(api.TAny))
		mustBeWellFormed(t, x)
		l := slices.DeleteFunc(lines.Lines(x, goal([]int{2}, nil)), func(l api.Line) bool { return len(l.Vars) > 0 })
		if show(l) != show(c.wanted) {
			t.Error(l)
		}
	}
}

// R1: choices of which all but one are impossible are no choices.
func TestForcedChoices(t *testing.T) {
	const number = 60
	var x api.Type
	var unions, forced []int
	for i := range number {
		x.Nodes = append(x.Nodes, kind(api.TTuple, i))
	}
	for i := range number {
		unions = append(unions, len(x.Nodes))
		x.Nodes = append(x.Nodes, kind(api.TUnion, i, (i+1)%number, (i+2)%number))
		if i%3 > 0 {
			forced = append(forced, i)
		}
	}
	l := lines.Lines(x, goal(unions, forced))
	if len(l) != 1 || len(l[0].Pos) != number/3 || !slices.Equal(l[0].Neg, forced) {
		t.Error(len(l))
	}
	if l := lines.Lines(x, goal(unions, append(forced, 0))); len(l) > 0 {
		t.Error(len(l))
	}
}

// R8: types of every size.
func TestLargeUnions(t *testing.T) {
	const size = 20000
	for i, c := range []struct {
		node   func(n int) api.TypeNode
		number int
	}{
		{func(n int) api.TypeNode { return from(int64(3*n), int64(3*n+1)) }, 1},
		{func(n int) api.TypeNode { return text(api.TAtom, "a"+string(rune('a'+n%26))) }, 1},
		{func(n int) api.TypeNode { return kind(api.TTuple, n) }, size},
		{func(n int) api.TypeNode { return kind(api.TCons, n, n) }, size},
	} {
		union := kind(api.TUnion)
		x := graph(union)
		for n := range size {
			x.Nodes[0].Kids = append(x.Nodes[0].Kids, n+1)
			x.Nodes = append(x.Nodes, c.node(n))
		}
		if l := lines.Lines(x, goal([]int{0}, nil)); len(l) != c.number {
			t.Error(i, len(l))
		}
		if l := lines.Lines(x, goal([]int{0}, []int{0})); len(l) > 0 {
			t.Error(i, len(l))
		}
		if l := lines.Lines(x, goal(nil, []int{0})); len(l) < 15 || len(l) > 17 {
			t.Error(i, len(l))
		}
	}
}

// R8: conjunctions of many unions of integers, with a type variable beside them, do not multiply.
func TestManyUnions(t *testing.T) {
	const number = 40
	x := graph(text(api.TVar, "A"))
	var plain, labelled []int
	for i := range int64(number) {
		n := len(x.Nodes)
		x.Nodes = append(x.Nodes, from(least, i), from(-i, greatest), from(2*number, 3*number), kind(api.TUnion, n, n+1, n+2), kind(api.TUnion, n, 0, n+2))
		plain, labelled = append(plain, n+3), append(labelled, n+4)
	}
	if l := lines.Lines(x, goal(plain, nil)); show(l) != show([]api.Line{{Kind: api.VInt, Ints: []api.Range{{Lo: least, Hi: greatest}}}}) {
		t.Error(l)
	}
	l := lines.Lines(x, goal(labelled, []int{1}))
	for _, wanted := range []api.Line{
		{Kind: api.VInt, Ints: []api.Range{{Lo: 2 * number, Hi: 3 * number}}},
		{Kind: api.VInt, Ints: []api.Range{{Lo: 1, Hi: greatest}}, Vars: []string{"A"}},
		{Kind: api.VNil, Vars: []string{"A"}},
	} {
		if !slices.ContainsFunc(l, func(l api.Line) bool { return show(l) == show(wanted) }) {
			t.Error(wanted, l)
		}
	}
	if len(l) != 18 {
		t.Error(len(l))
	}
	if l := lines.Lines(x, goal(nil, plain)); len(l) != 16 {
		t.Error(len(l))
	}
}

// R1: choices that hold for all integers that are left, are no choices.
func TestMetChoices(t *testing.T) {
	const number = 60
	x := graph(from(3, 5), from(0, 9))
	all := []int{0}
	for i := range number {
		n := len(x.Nodes)
		x.Nodes = append(x.Nodes, text(api.TVar, "A"+strconv.Itoa(i)), kind(api.TUnion, 1, n))
		all = append(all, n+1)
	}
	wanted := []api.Line{{Kind: api.VInt, Ints: []api.Range{{Lo: 3, Hi: 5}}}}
	if l := lines.Lines(x, goal(all, nil)); show(l) != show(wanted) {
		t.Error(l)
	}
}
