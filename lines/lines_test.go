package lines_test

import (
	"slices"
	"testing"

	"semtype/api"
	"semtype/interval"
	"semtype/lines"
	"semtype/literals"
	"semtype/samples"
	"semtype/typeexpr"
	"semtype/value"
)

// check checks that Lines has exactly the values in the goal, in lines of the right form.
func check(t *testing.T, m table, g api.Goal) (l []api.Line, found int) {
	t.Helper()
	l = lines.Lines(m.x, g)
	for _, line := range l {
		wellFormed(t, m.x, line)
	}
	return l, m.matches(t, g, l)
}

// Example 1.
func TestExampleUnion(t *testing.T) {
	x := graph(kind(api.TUnion, 1, 2), from(least, greatest), kind(api.TTuple, 1))
	l := lines.Lines(x, goal([]int{0}, nil))
	for _, wanted := range []api.Line{
		{Kind: api.VInt, Ints: interval.Full()},
		{Kind: api.VTuple, Arity: 1, Pos: []int{2}},
	} {
		if !slices.ContainsFunc(l, func(l api.Line) bool { return show(l) == show(wanted) }) {
			t.Error(wanted, l)
		}
	}
}

// Example 2, for each kind of node.
func TestExampleContradiction(t *testing.T) {
	x := zoo(t)
	m := newTable(x, samples.Values())
	for n := range x.Nodes {
		if _, found := check(t, m, goal([]int{n}, []int{n})); found != 0 {
			t.Error(n, found)
		}
	}
}

// P9.3: the goal without nodes has a line for all values of each kind and arity.
func TestLinesWithoutNodes(t *testing.T) {
	m := newTable(graph(kind(api.TNone)), samples.Values())
	if _, found := check(t, m, api.Goal{}); found != len(m.values) {
		t.Error(found)
	}
	l, found := check(t, m, api.Goal{Lists: true})
	if found == 0 || len(l) != 2 || l[0].Kind+l[1].Kind != api.VNil+api.VCons {
		t.Error(l)
	}
}

// zoo has nodes of each kind, some of them twice or of several sizes, and connectives within each other.
func zoo(t *testing.T) api.Type {
	t.Helper()
	x := graph(
		/* 0 */ kind(api.TNone), kind(api.TAny), from(0, 0), from(least, -1), from(least, least), from(-1, greatest), from(greatest, greatest),
		/* 7 */ text(api.TString, ""), text(api.TString, "a"), kind(api.TStrings), text(api.TAtom, "a"), text(api.TAtom, "b"), kind(api.TAtoms), kind(api.TPid), kind(api.TNil),
		/* 15 */ kind(api.TTuple), kind(api.TTuple, 2), kind(api.TTuple, 9, 1), kind(api.TTuple, 1, 10), kind(api.TTuple, 1, 1, 1), kind(api.TTuple, 1, 1, 1, 1), kind(api.TTuples),
		/* 22 */ kind(api.TCons, 2, 14), kind(api.TCons, 1, 1), samples.Record(1, 1), samples.Record(0, 0, samples.Field("a", 2)),
		/* 26 */ kind(api.TFun, 2), kind(api.TFun, 1, 2), kind(api.TFun, 2, 10), kind(api.TFun, 1, 1, 1), kind(api.TFun, 1, 1, 1, 1), kind(api.TFun, 0, 1, 1, 1, 1), kind(api.TFuns),
		/* 33 */ text(api.TVar, "A"), text(api.TVar, "B"), text(api.TVar, "A"),
		/* 36 */ kind(api.TUnion, 2, 16), kind(api.TInter, 1, 33), kind(api.TNot, 9), kind(api.TNot, 38), kind(api.TNot, 16), kind(api.TNot, 33),
		/* 42 */ kind(api.TUnion, 37, 43, 36), kind(api.TInter, 40, 41, 44), kind(api.TUnion, 10, 21, 34, 12), kind(api.TNot, 42), kind(api.TUnion, 0), kind(api.TInter, 1),
		/* 48 */ kind(api.TUnion, 14, 49), kind(api.TCons, 2, 48), kind(api.TInter, 51, 52), kind(api.TUnion, 17, 18, 28, 2), kind(api.TNot, 53), kind(api.TInter, 18, 41, 1), kind(api.TInter, 22, 53), kind(api.TUnion, 23, 1), kind(api.TUnion, 24, 25, 3, 33), kind(api.TInter, 56, 45, 32),
	)
	mustBeWellFormed(t, x)
	return x
}

// P9.3: each node, and each two of them, on both sides.
func TestPairs(t *testing.T) {
	x := zoo(t)
	m := newTable(x, samples.Values())
	found := map[bool]int{}
	for a := range x.Nodes {
		for _, g := range []api.Goal{goal([]int{a}, nil), goal(nil, []int{a}), onlyLists(goal([]int{a}, nil)), onlyLists(goal(nil, []int{a}))} {
			check(t, m, g)
		}
		for b := range a {
			for _, g := range []api.Goal{goal([]int{a, b}, nil), goal([]int{a}, []int{b}), goal([]int{b, b}, []int{a, a}), goal(nil, []int{b, a}), onlyLists(goal([]int{b}, []int{a}))} {
				_, n := check(t, m, g)
				found[n > 0]++
			}
		}
	}
	if found[true] < 1000 || found[false] < 1000 {
		t.Error(found)
	}
}

// P9.3: what the lines of some goals are, as far as the document leaves no choice but their number.
func TestLines(t *testing.T) {
	x := zoo(t)
	names := func(l ...string) api.Names { return literals.Finite(l...) }
	allBut := func(l ...string) api.Names { return literals.Cofinite(l...) }
	ints := func(lo, hi int64) []api.Range { return []api.Range{{Lo: lo, Hi: hi}} }
	for i, c := range []struct {
		g      api.Goal
		wanted []api.Line
	}{
		{goal([]int{0}, nil), nil},
		{goal(nil, []int{1}), nil},
		{goal([]int{2, 3}, nil), nil},
		{goal([]int{3}, nil), []api.Line{{Kind: api.VInt, Ints: ints(least, -1)}}},
		{goal([]int{3}, []int{4}), []api.Line{{Kind: api.VInt, Ints: ints(least+1, -1)}}},
		{goal([]int{5}, []int{6, 2}), []api.Line{{Kind: api.VInt, Ints: []api.Range{{Lo: -1, Hi: -1}, {Lo: 1, Hi: greatest - 1}}}}},
		{goal([]int{4, 4}, []int{6, 6}), []api.Line{{Kind: api.VInt, Ints: ints(least, least)}}},
		{goal([]int{4}, []int{3}), nil},
		{goal([]int{7, 9}, nil), []api.Line{{Kind: api.VString, Names: names("")}}},
		{goal([]int{9}, []int{8, 7, 8}), []api.Line{{Kind: api.VString, Names: allBut("", "a")}}},
		{goal([]int{8}, []int{9}), nil},
		{goal([]int{12}, []int{11}), []api.Line{{Kind: api.VAtom, Names: allBut("b")}}},
		{goal([]int{12, 10}, []int{11}), []api.Line{{Kind: api.VAtom, Names: names("a")}}},
		{goal([]int{8, 10}, nil), nil},
		{goal([]int{13, 33}, []int{34}), []api.Line{{Kind: api.VPid, Vars: []string{"A"}, NotVars: []string{"B"}}}},
		{goal([]int{34, 33, 14, 35}, nil), []api.Line{{Kind: api.VNil, Vars: []string{"A", "B"}}}},
		{goal([]int{33}, []int{35}), nil},
		{goal([]int{21, 18}, []int{17, 19}), []api.Line{{Kind: api.VTuple, Arity: 2, Pos: []int{18}, Neg: []int{17}}}},
		{goal([]int{18, 19}, nil), nil},
		{goal([]int{16, 24}, nil), nil},
		{goal([]int{23}, []int{22, 49}), []api.Line{{Kind: api.VCons, Pos: []int{23}, Neg: []int{22, 49}}}},
		{goal([]int{24, 25}, nil), []api.Line{{Kind: api.VMap, Pos: []int{24, 25}}}},
		{goal([]int{32, 28, 27}, []int{29}), []api.Line{{Kind: api.VFun, Arity: 1, Pos: []int{27, 28}}}},
		{goal([]int{26, 32}, []int{33}), []api.Line{{Kind: api.VFun, Pos: []int{26}, NotVars: []string{"A"}}}},
		{goal([]int{39}, nil), []api.Line{{Kind: api.VString, Names: allBut()}}},
		{goal([]int{36}, []int{2}), []api.Line{{Kind: api.VTuple, Arity: 1, Pos: []int{16}}}},
		{onlyLists(goal([]int{48}, nil)), []api.Line{{Kind: api.VNil}, {Kind: api.VCons, Pos: []int{49}}}},
		{onlyLists(goal([]int{21}, nil)), nil},
	} {
		if got := lines.Lines(x, c.g); show(got) != show(c.wanted) {
			t.Errorf("%d: %+v", i, got)
		}
	}
}

// P9.3: a choice that another one answers adds no line, and neither does a line that has no other values than another one.
func TestFewLines(t *testing.T) {
	x := graph(
		/* 0 */ kind(api.TTuple, 0), kind(api.TTuple, 1), kind(api.TTuple, 2), kind(api.TTuple, 3), text(api.TVar, "A"), from(0, 5), from(3, 9), from(20, 30),
		/* 8 */ kind(api.TUnion, 0, 1), kind(api.TUnion, 1, 2), kind(api.TUnion, 0, 1, 2), kind(api.TInter, 0, 1), kind(api.TUnion, 11, 0), kind(api.TUnion, 4, 5), kind(api.TUnion, 4, 6, 7), kind(api.TInter, 1, 2), kind(api.TUnion, 15, 2), kind(api.TUnion, 4, 5, 1),
	)
	mustBeWellFormed(t, x)
	for i, c := range []struct {
		g      api.Goal
		number int
	}{
		{goal([]int{8, 9}, nil), 2},
		{goal([]int{8, 9, 10}, nil), 2},
		{goal([]int{12}, nil), 1},
		{goal([]int{12, 16}, nil), 1},
		{goal([]int{8}, []int{0}), 1},
		{goal([]int{10}, []int{1, 0}), 1},
		{goal([]int{13, 14, 5}, nil), 2},
		{goal([]int{8, 8, 8}, nil), 2},
		{goal(nil, []int{11, 15, 0, 1, 7}), 17},
	} {
		if l := lines.Lines(x, c.g); len(l) != c.number {
			t.Errorf("%d: %d lines: %+v", i, len(l), l)
		}
	}
	// 3..5 has A or not; A has all integers.
	l := lines.Lines(x, goal([]int{13, 14, 17}, []int{0, 1, 2, 3}))
	i := slices.IndexFunc(l, func(l api.Line) bool { return l.Kind == api.VInt && len(l.Vars) == 0 })
	if i < 0 || show(l[i].Ints) != show([]api.Range{{Lo: 3, Hi: 5}}) {
		t.Error(l)
	}
}

// P9.3: lists of digits, and trees.
func TestRecursion(t *testing.T) {
	x := graph(kind(api.TUnion, 1, 2), kind(api.TNil), kind(api.TCons, 3, 0), from(0, 9), kind(api.TUnion, 3, 5), kind(api.TTuple, 4, 4), kind(api.TInter, 4, 7), kind(api.TNot, 3), kind(api.TTuple, 8))
	mustBeWellFormed(t, x)
	digit := value.Int(3)
	pair := value.Tuple(digit, value.Tuple(digit, digit))
	m := newTable(x, append(samples.Values(), value.List(digit), value.List(digit, value.Int(10)), pair, value.Tuple(pair, pair), value.Tuple(pair, value.Nil())))
	for n := range x.Nodes {
		for k := range x.Nodes {
			check(t, m, goal([]int{n}, []int{k}))
			check(t, m, goal([]int{n, k}, nil))
			check(t, m, onlyLists(goal(nil, []int{n, k})))
		}
	}
	if l := lines.Lines(x, goal([]int{8}, nil)); show(l) != show([]api.Line{{Kind: api.VTuple, Arity: 1, Pos: []int{8}}}) {
		t.Error(l)
	}
	both, second := typeexpr.Join(typeexpr.ListOf(typeexpr.Any()), x)
	check(t, newTable(both, m.values), goal([]int{both.Root}, []int{second}))
}
