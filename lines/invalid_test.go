package lines_test

import (
	"testing"

	"semtype/api"
	"semtype/lines"
	"semtype/samples"
	"semtype/value"
)

// P9.1, P9.2: a value that is not valid is in no goal and in no line.
func TestInvalidValues(t *testing.T) {
	x := graph(kind(api.TAny), kind(api.TNone))
	goals := []api.Goal{{}, {Lists: true}, goal([]int{0}, nil), goal(nil, []int{1}), onlyLists(goal([]int{0}, []int{1}))}
	for _, v := range samples.InvalidValues() {
		for _, g := range goals {
			if lines.InGoal(v, x, g) {
				t.Error(v, g)
			}
		}
		for _, l := range append(everything(), api.Line{Kind: v.Kind}, api.Line{Kind: v.Kind, Arity: len(v.Kids)}, api.Line{Kind: v.Kind, Arity: int(v.Int), Names: api.Names{Cofinite: true}}) {
			if lines.InLine(v, x, l) {
				t.Error(v, l)
			}
		}
	}
}

// P9.1 to P9.3: a type that is not well-formed has no values in goals and in lines, and no lines, whatever its other nodes are.
func TestInvalidTypes(t *testing.T) {
	for _, x := range append(samples.InvalidTypes(), graph(kind(api.TAny), kind(api.TNot, 2)), graph(kind(api.TAny), kind(api.TTuple, 3)), api.Type{Nodes: []api.TypeNode{kind(api.TAny)}, Root: 2}) {
		for _, g := range []api.Goal{{}, {Lists: true}, goal([]int{0}, nil), goal(nil, []int{0}), goal([]int{1}, nil), goal(nil, []int{1})} {
			if l := lines.Lines(x, g); len(l) > 0 {
				t.Error(x, g, l)
			}
			for _, v := range []api.Value{value.Int(0), value.Nil(), value.Tuple(), {}} {
				if lines.InGoal(v, x, g) {
					t.Error(v, x, g)
				}
			}
		}
		for _, v := range samples.Simple() {
			for _, l := range everything() {
				if lines.InLine(v, x, l) {
					t.Error(v, x, l)
				}
			}
		}
	}
}

// P9.1 to P9.3: an index without a node makes the goal and the line empty, also in Neg, and also where the kind of the line uses no nodes.
func TestInvalidIndices(t *testing.T) {
	x := graph(kind(api.TAny), kind(api.TUnion, 0))
	for _, n := range []int{-1, 2, 3, 4, 5, 6, least, greatest} {
		for _, g := range []api.Goal{goal([]int{n}, nil), goal(nil, []int{n}), goal([]int{0, n, 1}, nil), goal([]int{0}, []int{n}), goal([]int{n}, []int{n}), goal([]int{0}, []int{1, n}), onlyLists(goal(nil, []int{n}))} {
			if l := lines.Lines(x, g); len(l) > 0 {
				t.Error(g, l)
			}
			for _, v := range samples.Simple() {
				if lines.InGoal(v, x, g) {
					t.Error(v, g)
				}
				for _, l := range everything() {
					l.Pos, l.Neg = g.Pos, g.Neg
					if lines.InLine(v, x, l) {
						t.Error(v, l)
					}
				}
			}
		}
	}
}

// P9.2: no value has another kind or arity.
func TestInvalidLines(t *testing.T) {
	x := graph(kind(api.TAny))
	for _, v := range samples.Simple() {
		for _, k := range []int{0, -1, api.VFun + 1, least, greatest} {
			if lines.InLine(v, x, api.Line{Kind: k, Ints: []api.Range{{Lo: least, Hi: greatest}}, Names: api.Names{Cofinite: true}}) {
				t.Error(v, k)
			}
		}
		for _, arity := range []int{-1, api.MaxArity + 1, least, greatest} {
			for _, k := range []int{api.VTuple, api.VFun} {
				if lines.InLine(v, x, api.Line{Kind: k, Arity: arity}) {
					t.Error(v, k, arity)
				}
			}
		}
	}
}
