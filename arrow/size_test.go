package arrow_test

import (
	"slices"
	"testing"

	"semtype/api"
	"semtype/arrow"
	"semtype/member"
	"semtype/value"
)

// R1: nodes that are there many times, that cannot be met otherwise, or that are met anyway take no time each on its own.
func TestManyNodes(t *testing.T) {
	const number = 1 << 13
	x := graph(text(api.TVar, "A"), text(api.TVar, "B"), kind(api.TFun, 0, 1), from(-9, -1), kind(api.TAny), kind(api.TFun, 3, 1))
	var params, results, apart, same, anything []int
	add := func(l *[]int, node api.TypeNode) {
		*l = append(*l, len(x.Nodes))
		x.Nodes = append(x.Nodes, node)
	}
	for i := range number {
		n := len(x.Nodes)
		x.Nodes = append(x.Nodes, from(0, int64(i)))
		add(&params, kind(api.TFun, n, 1))
		add(&results, kind(api.TFun, 0, n))
		add(&apart, kind(api.TFun, n, 0))
		add(&same, kind(api.TFun, 0, 1))
		add(&anything, kind(api.TFun, 1, 4))
	}
	mustBeWellFormed(t, x)
	for i, c := range []struct {
		pos   []int
		neg   int
		forms int
	}{
		{slices.Repeat(params[:1], number), 2, 2},
		{params, 2, 2},
		{results, 2, 1},
		{slices.Concat(params, results), 2, 1},
		{same, 2, 0},
		{slices.Concat(params, results, same), 2, 0},
		{apart, 5, 2},
		{params, 5, 2},
		{anything, 2, 2},
		{slices.Concat(anything, apart), 5, 2},
	} {
		forms, code := arrow.Forms(x, c.pos, c.neg)
		if len(forms) != c.forms || code != api.OK {
			t.Error(i, len(forms), code)
		}
	}
	if !arrow.Allowed(maps(value.Int(-1), a), x, slices.Concat(params, apart)) || arrow.Allowed(fails(value.Int(number-1)), x, params) {
		t.Error("an entry is not allowed, or is")
	}
}

// Nodes without common parts have a form for each choice.
func TestManyForms(t *testing.T) {
	for arity, number := range []int{1000, 8, 6, 4, 4} {
		x, row := api.Type{}, make([]int, arity+1)
		var pos []int
		for range number + 1 {
			for k := range row {
				row[k] = len(x.Nodes)
				x.Nodes = append(x.Nodes, from(int64(len(x.Nodes)), int64(len(x.Nodes)+1<<16)))
			}
			pos = append(pos, len(x.Nodes))
			x.Nodes = append(x.Nodes, kind(api.TFun, slices.Clone(row)...))
		}
		mustBeWellFormed(t, x)
		wanted, failing := 1, 1
		for range number {
			wanted, failing = wanted*(arity+1), failing*arity
		}
		if forms, code := arrow.Forms(x, pos[1:], pos[0]); len(forms) != wanted+failing || code != api.OK {
			t.Error(arity, len(forms), code)
		}
	}
}

// R8: functions with many entries.
func TestLargeFunctions(t *testing.T) {
	const number = 1 << 14
	x := graph(kind(api.TFun, 1, 1), from(0, number), kind(api.TFun, 1, 3), from(0, number-1))
	var l []api.Value
	for i := range number {
		l = append(l, fun(1, maps(value.Int(int64(i)), value.Int(int64(number-i))), maps(value.Int(7), value.Int(7))))
	}
	merged, code := arrow.Merge(l...)
	if code != api.OK || len(merged.Entries) != number+1 || value.Validate(merged) != api.OK || !member.MemberOf(merged, x, 0) || member.MemberOf(merged, x, 2) {
		t.Error(len(merged.Entries), code)
	}
}

// R1: the document's limit of 2^16 levels.
func TestDeepValues(t *testing.T) {
	const levels = 1 << 16
	x := graph(kind(api.TUnion, 1, 2), kind(api.TNil), kind(api.TFun, 0), kind(api.TFun, 0, 0), kind(api.TFun, 0, 4), kind(api.TNone))
	x.Nodes[4].Kids = only(0, 5)
	v := value.Nil()
	for range levels - 2 {
		v = api.Value{Kind: api.VFun, Entries: []api.Entry{{Result: v}}} // value.Function copies all levels
	}
	if !arrow.Allowed(maps(v, v), x, only(3)) || arrow.Allowed(maps(v, v), x, only(3, 4)) || arrow.Allowed(maps(v, value.Tuple(v)), x, only(3)) {
		t.Error("an entry is not allowed, or is")
	}
	forms, code := arrow.Forms(x, only(3), 4)
	if code != api.OK || !isSome(maps(v, v), x, forms) || isSome(maps(v, value.Tuple(v)), x, forms) {
		t.Error(forms, code)
	}
	f := api.Value{Kind: api.VFun, Entries: []api.Entry{{Result: v}}}
	if merged, code := arrow.Merge(f, f, fun(0, fails())); code != api.OK || len(merged.Entries) != 2 || value.Height(merged) != levels {
		t.Error(code)
	}
}
