package lines_test

import (
	"slices"
	"testing"

	"semtype/api"
	"semtype/lines"
	"semtype/samples"
	"semtype/value"
)

// everything is a line for each kind that has all values of the kind, or all those of the arity.
func everything() []api.Line {
	var l []api.Line
	for kind := api.VInt; kind <= api.VFun; kind++ {
		l = append(l, api.Line{Kind: kind, Ints: []api.Range{{Lo: least, Hi: greatest}}, Names: api.Names{Cofinite: true}})
	}
	for arity := 1; arity <= api.MaxArity; arity++ {
		l = append(l, api.Line{Kind: api.VTuple, Arity: arity}, api.Line{Kind: api.VFun, Arity: arity})
	}
	return l
}

func arityOf(v api.Value) int {
	switch v.Kind {
	case api.VTuple:
		return len(v.Kids)
	case api.VFun:
		return int(v.Int)
	}
	return 0
}

// P9.2: a line has values of its kind and arity only, and what the kind does not use does not count.
func TestKinds(t *testing.T) {
	x := graph(kind(api.TNone))
	found := map[int]int{}
	for _, v := range samples.Values() {
		for i, l := range everything() {
			is := v.Kind == l.Kind && arityOf(v) == l.Arity
			if lines.InLine(v, x, l) != is {
				t.Error(v, l)
			}
			if is {
				found[i]++
			}
			unused := l
			unused.Arity, unused.Ints, unused.Names, unused.Pos = 7, nil, api.Names{}, []int{0}
			switch l.Kind {
			case api.VInt:
				unused.Ints = l.Ints
			case api.VString, api.VAtom:
				unused.Names = l.Names
			case api.VTuple, api.VFun:
				unused.Arity, unused.Pos = l.Arity, nil
			case api.VCons, api.VMap:
				unused.Pos = nil
			}
			if lines.InLine(v, x, unused) != is {
				t.Error(v, unused)
			}
		}
	}
	if len(found) != len(everything()) {
		t.Error(found)
	}
}

// P9.2: Int is in the set Ints, which need not be a normal form.
func TestInts(t *testing.T) {
	x := graph(kind(api.TNone))
	l := api.Line{Kind: api.VInt, Ints: []api.Range{{Lo: 7, Hi: 9}, {Lo: -3, Hi: -1}, {Lo: 9, Hi: 12}, {Lo: 20, Hi: 19}}}
	for n, is := range map[int64]bool{-4: false, -3: true, -2: true, -1: true, 0: false, 6: false, 7: true, 9: true, 12: true, 13: false, 19: false, 20: false, least: false, greatest: false} {
		if lines.InLine(value.Int(n), x, l) != is || lines.InLine(value.Pid(n), x, l) {
			t.Error(n)
		}
	}
	ends := api.Line{Kind: api.VInt, Ints: []api.Range{{Lo: least, Hi: least}, {Lo: greatest, Hi: greatest}}}
	for n, is := range map[int64]bool{least: true, least + 1: false, 0: false, greatest - 1: false, greatest: true} {
		if lines.InLine(value.Int(n), x, ends) != is {
			t.Error(n)
		}
	}
	if lines.InLine(value.Int(0), x, api.Line{Kind: api.VInt}) {
		t.Error("no Ints")
	}
}

// P9.2: Text is in the set Names, which need not be valid.
func TestNames(t *testing.T) {
	x := graph(kind(api.TNone))
	for _, names := range [][]string{nil, {"a"}, {"a", "b"}, {"b", "a", "b"}, {"c"}, {""}, {"A", "a"}} {
		for _, s := range []string{"a", "b", "c", "", "A"} {
			listed := slices.Contains(names, s)
			for _, cofinite := range []bool{false, true} {
				n := api.Names{Cofinite: cofinite, List: names}
				if lines.InLine(value.String(s), x, api.Line{Kind: api.VString, Names: n}) != (listed != cofinite) {
					t.Error(names, cofinite, s)
				}
				isName := s != "" && s != "A"
				if lines.InLine(value.Atom(s), x, api.Line{Kind: api.VAtom, Names: n}) != (isName && listed != cofinite) {
					t.Error(names, cofinite, s)
				}
				if lines.InLine(value.Atom(s), x, api.Line{Kind: api.VString, Names: n}) || lines.InLine(value.String(s), x, api.Line{Kind: api.VAtom, Names: n}) {
					t.Error(names, cofinite, s)
				}
			}
		}
	}
}

// P9.2: the Labels contain each name of Vars and none of NotVars, for every kind and in any order.
func TestVariables(t *testing.T) {
	x := graph(kind(api.TNone))
	sets := [][]string{nil, {"A"}, {"B"}, {"A", "B"}, {"B", "A", "B"}, {"C"}, {"a"}, {"A", "C"}}
	for _, v := range samples.Values() {
		for _, vars := range sets {
			for _, notVars := range sets {
				missing := slices.ContainsFunc(vars, func(s string) bool { return !slices.Contains(v.Labels, s) })
				wanted := !missing && !common(v.Labels, notVars)
				for _, l := range everything() {
					if l.Kind == v.Kind && l.Arity == arityOf(v) {
						l.Vars, l.NotVars = vars, notVars
						if lines.InLine(v, x, l) != wanted {
							t.Fatal(v, l)
						}
					}
				}
			}
		}
	}
}

// P9.2: the kinds with parts ask for the nodes, of any kind, and the other kinds do not.
func TestNodes(t *testing.T) {
	x := graph(kind(api.TTuple, 1), from(0, 9), kind(api.TCons, 1, 3), kind(api.TNil), samples.Record(1, 1), kind(api.TFun, 1, 1), kind(api.TAny), kind(api.TNone), kind(api.TUnion, 0, 2, 4, 5), text(api.TVar, "A"))
	mustBeWellFormed(t, x)
	m := newTable(x, append(samples.Values(), value.Tuple(value.Int(1)), value.Tuple(value.Int(10)), value.List(value.Int(10))))
	sets := [][]int{nil, {0}, {2}, {4}, {5}, {6}, {7}, {8}, {9}, {8, 0}, {6, 9, 6}}
	found := map[bool]int{}
	for i, v := range m.values {
		for _, pos := range sets {
			for _, neg := range sets {
				l := api.Line{Kind: v.Kind, Arity: arityOf(v), Ints: []api.Range{{Lo: least, Hi: greatest}}, Names: api.Names{Cofinite: true}, Pos: pos, Neg: neg}
				wanted := m.inLine(i, l)
				if lines.InLine(v, x, l) != wanted {
					t.Fatal(v, l)
				}
				found[wanted]++
				l.Arity++
				if (v.Kind == api.VTuple || v.Kind == api.VFun) && lines.InLine(v, x, l) {
					t.Fatal(v, l)
				}
			}
		}
	}
	if found[true] < 1000 || found[false] < 1000 {
		t.Error(found)
	}
}
