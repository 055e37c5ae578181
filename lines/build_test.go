package lines_test

import (
	"fmt"
	"math"
	"slices"
	"testing"

	"semtype/api"
	"semtype/interval"
	"semtype/literals"
	"semtype/member"
	"semtype/samples"
	"semtype/typeexpr"
	"semtype/value"
)

const (
	least    = math.MinInt64
	greatest = math.MaxInt64
)

var (
	graph = samples.Graph
	kind  = samples.Node
	text  = samples.Text
	from  = samples.Range
	label = value.WithLabels
)

func show(x any) string { return fmt.Sprintf("%+v", x) }

func goal(pos, neg []int) api.Goal { return api.Goal{Pos: pos, Neg: neg} }

func onlyLists(g api.Goal) api.Goal {
	g.Lists = true
	return g
}

func isList(v api.Value) bool { return v.Kind == api.VNil || v.Kind == api.VCons }

// table knows which values are members of which nodes of a type, by package member.
type table struct {
	x      api.Type
	values []api.Value
	in     [][]bool // by value and node
}

func newTable(x api.Type, values []api.Value) table {
	m := table{x: x, values: values}
	for _, v := range values {
		var row []bool
		for n := range x.Nodes {
			row = append(row, member.MemberOf(v, x, n))
		}
		m.in = append(m.in, row)
	}
	return m
}

func (m table) meets(i int, pos, neg []int) bool {
	out := func(n int) bool { return !m.in[i][n] }
	return !slices.ContainsFunc(pos, out) && !slices.ContainsFunc(neg, func(n int) bool { return m.in[i][n] })
}

// inGoal follows the words of P9.1 for a valid value and the nodes of the type.
func (m table) inGoal(i int, g api.Goal) bool {
	return m.meets(i, g.Pos, g.Neg) && (!g.Lists || isList(m.values[i]))
}

// inLine follows the words of P9.2 for a valid value and the nodes of the type.
func (m table) inLine(i int, l api.Line) bool {
	v := m.values[i]
	labelled := func(name string) bool { return slices.Contains(v.Labels, name) }
	for _, name := range l.Vars {
		if !labelled(name) {
			return false
		}
	}
	if v.Kind != l.Kind || slices.ContainsFunc(l.NotVars, labelled) {
		return false
	}
	switch l.Kind {
	case api.VInt:
		return slices.ContainsFunc(l.Ints, func(r api.Range) bool { return r.Lo <= v.Int && v.Int <= r.Hi })
	case api.VString, api.VAtom:
		return slices.Contains(l.Names.List, v.Text) != l.Names.Cofinite
	case api.VTuple:
		return len(v.Kids) == l.Arity && m.meets(i, l.Pos, l.Neg)
	case api.VFun:
		return int(v.Int) == l.Arity && m.meets(i, l.Pos, l.Neg)
	case api.VCons, api.VMap:
		return m.meets(i, l.Pos, l.Neg)
	}
	return true
}

// matches checks that the values in the goal are those in some line, and returns how many there are.
func (m table) matches(t *testing.T, g api.Goal, l []api.Line) (found int) {
	t.Helper()
	for i, v := range m.values {
		is := m.inGoal(i, g)
		if is {
			found++
		}
		if slices.ContainsFunc(l, func(l api.Line) bool { return m.inLine(i, l) }) != is {
			t.Fatalf("%+v in %+v of %+v should be %v, and its lines are %+v", v, g, m.x, is, l)
		}
	}
	return found
}

// wellFormed checks what P9.3 says of the form of a line.
func wellFormed(t *testing.T, x api.Type, l api.Line) {
	t.Helper()
	for _, problem := range []struct {
		found bool
		name  string
	}{
		{l.Kind < api.VInt || l.Kind > api.VFun, "kind"},
		{l.Arity != 0 && l.Kind != api.VTuple && l.Kind != api.VFun || l.Arity < 0 || l.Arity > api.MaxArity, "arity"},
		{(len(l.Ints) > 0) != (l.Kind == api.VInt) || !interval.Valid(l.Ints), "ints"},
		{!literals.Valid(l.Names), "names"},
		{(l.Names.Cofinite || len(l.Names.List) > 0) != (l.Kind == api.VString || l.Kind == api.VAtom), "no names, or too many"},
		{!isAscending(l.Pos) || !isAscending(l.Neg) || common(l.Pos, l.Neg), "order of the nodes"},
		{!isAscending(l.Vars) || !isAscending(l.NotVars) || common(l.Vars, l.NotVars), "order of the variables"},
		{slices.ContainsFunc(slices.Concat(l.Pos, l.Neg), func(n int) bool { return !belongs(x, n, l) }), "nodes"},
	} {
		if problem.found {
			t.Fatalf("%s: %+v of %+v", problem.name, l, x)
		}
	}
}

func isAscending[T int | string](l []T) bool {
	for i := 1; i < len(l); i++ {
		if l[i-1] >= l[i] {
			return false
		}
	}
	return true
}

func common[T int | string](a, b []T) bool {
	return slices.ContainsFunc(a, func(x T) bool { return slices.Contains(b, x) })
}

// belongs reports whether the line may have the node.
func belongs(x api.Type, n int, l api.Line) bool {
	if n < 0 || n >= len(x.Nodes) {
		return false
	}
	node := x.Nodes[n]
	switch l.Kind {
	case api.VTuple:
		return node.Kind == api.TTuple && len(node.Kids) == l.Arity
	case api.VCons:
		return node.Kind == api.TCons
	case api.VMap:
		return node.Kind == api.TMap
	case api.VFun:
		return node.Kind == api.TFun && len(node.Kids) == l.Arity+1
	}
	return false
}

// mustBeWellFormed keeps a mistake in a test from passing as a type without members.
func mustBeWellFormed(t *testing.T, x api.Type) {
	t.Helper()
	if code := typeexpr.WellFormed(x); code != api.OK {
		t.Fatalf("%v: %+v", code, x)
	}
}
