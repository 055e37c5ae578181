package samples

import (
	"math"
	"slices"
	"strings"

	"semtype/api"
	"semtype/value"
)

// InvalidValues returns values that break each condition of chapter 4, at the root and in parts.
func InvalidValues() []api.Value {
	one, bad := value.Int(1), value.Atom("A")
	var l []api.Value
	for _, v := range append(invalidMaps(), invalidFunctions()...) {
		l = append(l, v, value.Tuple(v))
	}
	return append(l,
		api.Value{}, api.Value{Kind: -1}, api.Value{Kind: api.VFun + 1}, bad, value.Atom(""), value.String(strings.Repeat("x", api.MaxText+1)), value.Pid(-1),
		api.Value{Kind: api.VInt, Text: "a"}, api.Value{Kind: api.VNil, Int: 1}, api.Value{Kind: api.VAtom, Text: "a", Kids: []api.Value{one}},
		value.WithLabels(one, "a"), api.Value{Kind: api.VInt, Labels: []string{"B", "A"}}, api.Value{Kind: api.VInt, Labels: []string{"A", "A"}},
		value.Tuple(one, one, one, one, one), value.Tuple(bad), value.Tuple(value.Tuple(bad)),
		value.Cons(one, one), value.Cons(one, value.Tuple()), api.Value{Kind: api.VCons, Kids: []api.Value{one}}, api.Value{Kind: api.VCons}, value.List(one, bad), value.Cons(one, api.Value{Kind: api.VCons}),
	)
}

func invalidMaps() []api.Value {
	one := []api.Value{value.Int(1)}
	return []api.Value{
		{Kind: api.VMap, Keys: []api.Key{Key("a")}}, {Kind: api.VMap, Kids: one}, Dict("a", value.Atom("A")),
		{Kind: api.VMap, Keys: []api.Key{Key("b"), Key("a")}, Kids: slices.Repeat(one, 2)},
		{Kind: api.VMap, Keys: []api.Key{Key("a"), Key("a")}, Kids: slices.Repeat(one, 2)},
		{Kind: api.VMap, Keys: []api.Key{{Kind: 7, Text: "a"}}, Kids: one},
	}
}

func invalidFunctions() []api.Value {
	one, bad := value.Int(1), value.Atom("A")
	swapped := Fun(1, Maps(one, one), Fails(one))
	slices.Reverse(swapped.Entries)
	return []api.Value{
		{Kind: api.VFun, Int: -1}, {Kind: api.VFun, Int: api.MaxArity + 1}, {Kind: api.VFun, Int: math.MaxInt64}, {Kind: api.VFun, Int: 1, Entries: []api.Entry{{}}},
		{Kind: api.VFun, Entries: []api.Entry{Maps(one, one)}}, {Kind: api.VFun, Entries: []api.Entry{{Fails: true, Result: one}}}, {Kind: api.VFun, Entries: []api.Entry{Maps(one), Maps(one)}},
		swapped, Fun(1, Maps(bad, one)), Fun(1, Maps(one, bad)), Fun(1, Fails(bad)),
	}
}

// InvalidTypes returns types that break each condition of chapter 7, mostly at nodes that the root does not lead to.
func InvalidTypes() []api.Type {
	all := Node(api.TAny)
	l := []api.Type{{}, {Root: 1, Nodes: []api.TypeNode{all}}, {Root: -1, Nodes: []api.TypeNode{all}}, {Root: math.MinInt, Nodes: []api.TypeNode{all}}}
	for _, node := range invalidNodes() {
		l = append(l, Graph(all, node), Graph(Node(api.TUnion, 1, 2), all, node))
	}
	return append(l,
		Graph(Node(api.TUnion, 0), all), Graph(Node(api.TNot, 0), all), Graph(Node(api.TUnion, 1, 0), all), Graph(Node(api.TInter, 1, 0), all),
		Graph(all, Node(api.TNot, 2), Node(api.TInter, 1, 0)), Graph(Node(api.TUnion, 0, 1), all, Node(api.TTuple, 9)),
	)
}

// invalidNodes returns nodes that are not valid in a type with at most three nodes.
func invalidNodes() []api.TypeNode {
	return []api.TypeNode{
		Node(0), Node(-1), Node(api.TVar + 1), Node(api.TAny, 0), Node(api.TUnion), Node(api.TInter), Node(api.TNot), Node(api.TNot, 0, 0), Node(api.TTuple, 3), Node(api.TTuple, -1), Node(api.TTuple, 0, 0, 0, 0, 0),
		Node(api.TCons, 0), Node(api.TCons, 0, 0, 0), Node(api.TFun), Node(api.TFun, 0, 0, 0, 0, 0, 0), Range(1, 0), Text(api.TString, strings.Repeat("x", api.MaxText+1)), Text(api.TAtom, "A"), Text(api.TAtom, ""), Text(api.TVar, "a"),
		Record(0, 3), Record(-1, 0), Record(0, 0, Field("a", 3)), Record(0, 0, Field("b", 0), Field("a", 0)), Record(0, 0, Field("a", 0), Optional("a", 0)), Record(0, 0, Field("A", 0)),
	}
}
