package member_test

import (
	"runtime/debug"
	"testing"

	"semtype/api"
	"semtype/member"
)

// R1: many ways to a node, through connectives and parts, are not gone one by one.
func TestManyWays(t *testing.T) {
	const levels = 100
	deep := integer(1)
	for range levels {
		deep = tuple(deep)
	}
	for _, c := range []struct {
		connective int
		end        api.TypeNode
		v          api.Value
		is         bool
	}{
		{api.TUnion, kind(api.TNone), integer(1), false},
		{api.TInter, kind(api.TAny), integer(1), true},
		{api.TUnion, kind(api.TTuple, 0), deep, false},
		{api.TInter, record(0, 0), dict("a", dict(), "b", dict("a", dict(), "\"", dict())), true},
	} {
		var x api.Type
		for i := range levels {
			x.Nodes = append(x.Nodes, kind(c.connective, i+1, i+1))
		}
		x.Nodes = append(x.Nodes, c.end)
		path := member.Explain(c.v, x)
		if member.Member(c.v, x) != c.is || c.is && len(path) > 0 || !c.is && !explains(path, c.v, x) {
			t.Error(c.connective, c.end, path)
		}
	}
}

// smallStack makes room for some hundred thousand questions within each other, and returns what takes it back.
func smallStack() func() {
	before := debug.SetMaxStack(1 << 27)
	return func() { debug.SetMaxStack(before) }
}

// R1, R10: a list is as deep as it is long, so the stack has to suffice for many elements, whatever the order of the Kids is.
func TestLongLists(t *testing.T) {
	defer smallStack()()
	good, bad := list(), list(atom("a"))
	for range 1 << 18 {
		good = api.Value{Kind: api.VCons, Kids: []api.Value{integer(1), good}}
		bad = api.Value{Kind: api.VCons, Kids: []api.Value{integer(1), bad}}
	}
	for i, x := range []api.Type{
		graph(kind(api.TUnion, 1, 2), kind(api.TNil), kind(api.TCons, 3, 0), from(0, 9)),
		graph(kind(api.TUnion, 2, 1), kind(api.TNil), kind(api.TCons, 3, 0), from(0, 9)),
	} {
		if !member.Member(good, x) || member.Member(bad, x) {
			t.Error(i)
		}
	}
	all := graph(kind(api.TCons, 1, 0), from(0, 9))
	if path := member.Explain(good, all); len(path) != 1<<18+1 || !isPath(path, all) {
		t.Error(len(path))
	}
}

// R1: the document's limit of 2^16 levels, with many connectives at each of them.
func TestDeepValues(t *testing.T) {
	defer smallStack()()
	v := []api.Value{integer(1), integer(1), integer(1)}
	for range 1<<16 - 1 {
		v[0] = api.Value{Kind: api.VTuple, Kids: []api.Value{v[0]}}
		v[1] = api.Value{Kind: api.VMap, Keys: []api.Key{key("a")}, Kids: []api.Value{v[1]}}
		v[2] = api.Value{Kind: api.VFun, Entries: []api.Entry{{Result: v[2]}}}
	}
	for i, part := range []api.TypeNode{kind(api.TTuple, 0), record(0, 0), kind(api.TFun, 0)} {
		var x api.Type
		for n := range 16 {
			x.Nodes = append(x.Nodes, kind([]int{api.TInter, api.TUnion, api.TNot, api.TNot}[n%4], n+1))
		}
		x.Nodes = append(x.Nodes, kind(api.TUnion, 17, 18), part, from(1, 1))
		if !member.Member(v[i], x) {
			t.Error(i)
		}
		x.Nodes[18] = from(2, 2)
		if member.Member(v[i], x) {
			t.Error(i)
		}
	}
}

// R1: a deep value is not compared with each part of a deep type.
func TestDeepTypes(t *testing.T) {
	const levels = 1<<16 - 1
	v := integer(1)
	var x api.Type
	for i := range levels {
		v = api.Value{Kind: api.VTuple, Kids: []api.Value{v}}
		x.Nodes = append(x.Nodes, kind(api.TTuple, i+1))
	}
	x.Nodes = append(x.Nodes, from(0, 9))
	if !member.Member(v, x) {
		t.Error("no member")
	}
	x.Nodes[levels] = kind(api.TAtoms)
	if path := member.Explain(v, x); len(path) != levels+1 || !isPath(path, x) {
		t.Error(len(path))
	}
}
