package typeexpr_test

import (
	"fmt"
	"math"
	"strings"
	"testing"

	"semtype/api"
	"semtype/typeexpr"
)

// sample returns valid nodes of each kind in a type with one node at least.
func sample() []api.TypeNode {
	text, name := strings.Repeat("\xff", api.MaxText), strings.Repeat("a", api.MaxName)
	var l []api.TypeNode
	for _, kind := range []int{api.TNone, api.TAny, api.TStrings, api.TAtoms, api.TPid, api.TNil, api.TTuples, api.TFuns} {
		l = append(l, api.TypeNode{Kind: kind})
	}
	l = append(l, api.TypeNode{Kind: api.TInt}, api.TypeNode{Kind: api.TInt, Lo: least, Hi: greatest}, api.TypeNode{Kind: api.TInt, Lo: -3, Hi: -3})
	l = append(l, api.TypeNode{Kind: api.TString}, api.TypeNode{Kind: api.TString, Text: text})
	l = append(l, api.TypeNode{Kind: api.TAtom, Text: "a"}, api.TypeNode{Kind: api.TAtom, Text: name})
	l = append(l, api.TypeNode{Kind: api.TVar, Text: "A"}, api.TypeNode{Kind: api.TVar, Text: "A" + name[1:]})
	l = append(l, kids(api.TTuple), kids(api.TTuple, 0), kids(api.TTuple, make([]int, api.MaxArity)...), kids(api.TCons, 0, 0))
	l = append(l, kids(api.TFun, 0), kids(api.TFun, 0, 0), kids(api.TFun, make([]int, api.MaxArity+1)...))
	l = append(l, api.TypeNode{Kind: api.TMap}, fields(field("a"), field("b"), field("\""), field("\"a"), field("\""+text)), fields(make([]api.Field, 0)...))
	return l
}

func kids(kind int, l ...int) api.TypeNode { return api.TypeNode{Kind: kind, Kids: l} }

func fields(l ...api.Field) api.TypeNode { return api.TypeNode{Kind: api.TMap, Fields: l} }

func field(k string) api.Field { return api.Field{Key: key(k)} }

// graph has the root 0.
func graph(nodes ...api.TypeNode) api.Type { return api.Type{Nodes: nodes} }

func wantCode(t *testing.T, x api.Type, wanted api.Code) {
	t.Helper()
	if code := typeexpr.WellFormed(x); code != wanted {
		t.Errorf("WellFormed(%v) = %v, not %v", x, code, wanted)
	}
	if code := typeexpr.Validate(x); code != wanted {
		t.Errorf("Validate(%v) = %v, not %v", x, code, wanted)
	}
}

// P7.1: each kind of node, as the root and as a node that the root does not lead to.
func TestValidNodes(t *testing.T) {
	for _, node := range sample() {
		wantCode(t, graph(node), api.OK)
		wantCode(t, graph(leafOf(api.TNil), node), api.OK)
	}
	for _, kind := range []int{api.TUnion, api.TInter, api.TNot} {
		wantCode(t, graph(kids(kind, 1), leafOf(api.TNil)), api.OK)
		wantCode(t, graph(leafOf(api.TNil), kids(kind, 0)), api.OK)
	}
	wantCode(t, graph(kids(api.TUnion, make([]int, 1000)...)), api.ErrLoop)
	wantCode(t, api.Type{Nodes: []api.TypeNode{leafOf(api.TNil), kids(api.TInter, make([]int, 1000)...)}, Root: 1}, api.OK)
}

func leafOf(kind int) api.TypeNode { return api.TypeNode{Kind: kind} }

// wantInvalid lays the node behind a valid one, and as the root of a type with a cycle: ErrInvalid is before ErrLoop.
func wantInvalid(t *testing.T, node api.TypeNode) {
	t.Helper()
	wantCode(t, graph(leafOf(api.TNil), node), api.ErrInvalid)
	wantCode(t, graph(node), api.ErrInvalid)
	wantCode(t, graph(kids(api.TNot, 0), node), api.ErrInvalid)
	wantCode(t, graph(node, leafOf(api.TNil), kids(api.TUnion, 2)), api.ErrInvalid)
}

// P7.1: on each kind of node, each field that the kind does not use.
func TestFieldsThatAreNotUsed(t *testing.T) {
	samples := append(sample(), kids(api.TUnion, 0), kids(api.TInter, 0, 0), kids(api.TNot, 0))
	for _, node := range samples {
		changes := map[string]func(*api.TypeNode){
			"Text":   func(n *api.TypeNode) { n.Text = "a" },
			"Kids":   func(n *api.TypeNode) { n.Kids = []int{0} },
			"Fields": func(n *api.TypeNode) { n.Fields = []api.Field{field("a")} },
			"Rest[0": func(n *api.TypeNode) { n.Rest[0] = 1 },
			"Rest[1": func(n *api.TypeNode) { n.Rest[1] = -1 },
			"Lo":     func(n *api.TypeNode) { n.Lo = -1 },
			"Hi":     func(n *api.TypeNode) { n.Hi = 1 },
		}
		for name, change := range changes {
			if strings.Contains(used[node.Kind], name[:min(4, len(name))]) {
				continue
			}
			changed := node
			change(&changed)
			t.Run(fmt.Sprint(name, node.Kind), func(t *testing.T) { wantInvalid(t, changed) })
		}
	}
	// R3: empty is as good as nil.
	wantCode(t, graph(api.TypeNode{Kind: api.TNil, Kids: []int{}, Fields: []api.Field{}}), api.OK)
	wantCode(t, graph(api.TypeNode{Kind: api.TTuple, Kids: []int{}}), api.OK)
}

// P7.1: kinds that do not exist, and roots that are no nodes.
func TestKindsAndRoots(t *testing.T) {
	for _, kind := range []int{0, -1, api.TVar + 1, math.MaxInt, math.MinInt} {
		wantInvalid(t, leafOf(kind))
		wantInvalid(t, kids(kind, 0))
	}
	wantCode(t, api.Type{}, api.ErrInvalid)
	wantCode(t, api.Type{Nodes: []api.TypeNode{}}, api.ErrInvalid)
	for _, root := range []int{-1, 2, 3, math.MaxInt, math.MinInt} {
		wantCode(t, api.Type{Nodes: []api.TypeNode{leafOf(api.TNil), leafOf(api.TAny)}, Root: root}, api.ErrInvalid)
		wantCode(t, api.Type{Nodes: []api.TypeNode{leafOf(api.TNil), kids(api.TNot, 1)}, Root: root}, api.ErrInvalid)
	}
	wantCode(t, api.Type{Nodes: []api.TypeNode{leafOf(api.TNil), leafOf(api.TAny)}, Root: 1}, api.OK)
}

// P7.1: the condition of each kind.
func TestInvalidNodes(t *testing.T) {
	long, name := strings.Repeat("a", api.MaxText+1), strings.Repeat("a", api.MaxName+1)
	bad := []api.TypeNode{
		{Kind: api.TInt, Lo: 1}, {Kind: api.TInt, Hi: -1}, {Kind: api.TInt, Lo: greatest, Hi: least}, {Kind: api.TInt, Lo: greatest, Hi: greatest - 1},
		{Kind: api.TString, Text: long},
		kids(api.TTuple, 0, 0, 0, 0, 0), kids(api.TCons), kids(api.TCons, 0), kids(api.TCons, 0, 0, 0),
		kids(api.TFun), kids(api.TFun, 0, 0, 0, 0, 0, 0), kids(api.TUnion), kids(api.TInter), kids(api.TNot), kids(api.TNot, 0, 0),
		fields(field("a"), field("a")), fields(field("b"), field("a")), fields(field("\"a"), field("a")), fields(field("a"), field("\"b"), field("\"b")),
		fields(field("")), fields(field("A")), fields(field("\"" + long)), fields(field(name)), fields(field("a"), field("a b")),
		fields(api.Field{Key: api.Key{Kind: 2, Text: "a"}}), fields(api.Field{Key: api.Key{Kind: -1, Text: "a"}}),
	}
	for _, text := range []string{"", "A", "_", "1", "a b", name, "é"} {
		bad = append(bad, api.TypeNode{Kind: api.TAtom, Text: text})
	}
	for _, text := range []string{"", "a", "_", "1", "A b", "A" + name[1:], "É"} {
		bad = append(bad, api.TypeNode{Kind: api.TVar, Text: text})
	}
	for _, node := range bad {
		wantInvalid(t, node)
	}
}

// P7.1: an index of each place that is no node.
func TestInvalidIndices(t *testing.T) {
	for _, n := range []int{-1, 3, 4, math.MaxInt, math.MinInt} {
		bad := []api.TypeNode{
			kids(api.TTuple, n), kids(api.TTuple, 0, 0, 0, n), kids(api.TCons, n, 0), kids(api.TCons, 0, n), kids(api.TFun, n), kids(api.TFun, n, 0), kids(api.TFun, 0, 0, n),
			kids(api.TUnion, n), kids(api.TUnion, 0, 0, n), kids(api.TInter, n, 0), kids(api.TInter, n), kids(api.TNot, n),
			{Kind: api.TMap, Rest: [2]int{n, 0}}, {Kind: api.TMap, Rest: [2]int{0, n}},
			fields(api.Field{Key: key("a"), Node: n}), fields(field("a"), api.Field{Key: key("\"a"), Node: n, Optional: true}),
		}
		for _, node := range bad {
			wantInvalid(t, node)
		}
	}
}

// P7.1: cycles out of TUnion, TInter and TNot nodes only, wherever they are.
func TestLoops(t *testing.T) {
	null := leafOf(api.TNil)
	loops := []api.Type{
		graph(kids(api.TNot, 0)), graph(kids(api.TUnion, 0)), graph(kids(api.TInter, 0)),
		graph(kids(api.TUnion, 1, 0), null), graph(kids(api.TInter, 1, 1, 0), null), graph(null, kids(api.TUnion, 0, 1)), graph(null, kids(api.TNot, 1)),
		graph(kids(api.TNot, 1), kids(api.TNot, 0)), graph(kids(api.TUnion, 3, 1), kids(api.TNot, 2), kids(api.TInter, 3, 0), null),
		graph(kids(api.TTuple, 1), kids(api.TNot, 2), kids(api.TNot, 1)), graph(kids(api.TUnion, 1, 2), kids(api.TCons, 0, 0), kids(api.TInter, 1, 0)),
		graph(kids(api.TUnion, 1), kids(api.TNot, 2), kids(api.TNot, 3), kids(api.TInter, 2, 4), null),
	}
	for _, x := range loops {
		wantCode(t, x, api.ErrLoop)
	}
}

// P7.1: recursion through each kind of node that has parts, with connectives between, and connectives that meet without a cycle.
func TestRecursiveTypes(t *testing.T) {
	null := leafOf(api.TNil)
	for _, node := range []api.TypeNode{
		kids(api.TTuple, 0), kids(api.TTuple, 3, 3, 3, 0), kids(api.TCons, 0, 3), kids(api.TCons, 3, 0), kids(api.TFun, 0), kids(api.TFun, 0, 3), kids(api.TFun, 3, 0),
		{Kind: api.TMap, Rest: [2]int{0, 3}}, {Kind: api.TMap, Rest: [2]int{3, 0}}, {Kind: api.TMap, Fields: []api.Field{{Key: key("a")}}, Rest: [2]int{3, 3}},
	} {
		wantCode(t, graph(node, node, node, null), api.OK)
		wantCode(t, graph(kids(api.TUnion, 3, 1), node, node, null), api.OK)
		wantCode(t, graph(kids(api.TInter, 2, 1), node, kids(api.TNot, 1), null), api.OK)
	}
	wantCode(t, graph(kids(api.TUnion, 1, 2, 1), kids(api.TNot, 2), kids(api.TInter, 3, 3), null), api.OK)
	wantCode(t, graph(null, kids(api.TNot, 0), kids(api.TUnion, 1, 0, 1), kids(api.TInter, 2, 1)), api.OK)
}

// variables returns a union of this many type variables, and a type variable that the root does not lead to.
func variables(count int) api.Type {
	x := graph(kids(api.TUnion))
	for i := range count {
		x.Nodes[0].Kids = append(x.Nodes[0].Kids, i+1, i+1)
		x.Nodes = append(x.Nodes, api.TypeNode{Kind: api.TVar, Text: fmt.Sprint("A", i)})
	}
	x.Nodes = append(x.Nodes, api.TypeNode{Kind: api.TVar, Text: "Z"})
	return x
}

func manyFields(count int) api.TypeNode {
	node := fields()
	for i := range count {
		node.Fields = append(node.Fields, field(string(rune('a'+i))))
	}
	return node
}

// P7.1: Validate at the limits and above them. WellFormed has no limits.
func TestLimits(t *testing.T) {
	many := func(count int) []api.TypeNode {
		l := make([]api.TypeNode, count)
		for i := range l {
			l[i] = leafOf(api.TNil)
		}
		return l
	}
	cases := []struct {
		t      api.Type
		wanted api.Code
	}{
		{graph(many(api.MaxTypeNodes)...), api.OK}, {graph(many(api.MaxTypeNodes + 1)...), api.ErrLimit},
		{graph(manyFields(api.MaxFields)), api.OK}, {graph(manyFields(api.MaxFields + 1)), api.ErrLimit},
		{graph(leafOf(api.TNil), manyFields(api.MaxFields), manyFields(api.MaxFields)), api.OK},
		{graph(leafOf(api.TNil), manyFields(api.MaxFields+1)), api.ErrLimit},
		{variables(api.MaxVariables), api.OK}, {variables(api.MaxVariables + 1), api.ErrLimit},
		{api.Type{Nodes: variables(api.MaxVariables + 1).Nodes, Root: 1}, api.OK},
	}
	for i, c := range cases {
		if code := typeexpr.WellFormed(c.t); code != api.OK {
			t.Errorf("case %d: WellFormed: %v", i, code)
		}
		if code := typeexpr.Validate(c.t); code != c.wanted {
			t.Errorf("case %d: Validate: %v", i, code)
		}
	}
	large := append(many(api.MaxTypeNodes+1), manyFields(api.MaxFields+1))
	wantCode(t, graph(append(large, kids(api.TNot, len(large)))...), api.ErrLoop)
	wantCode(t, graph(append(large, leafOf(0))...), api.ErrInvalid)
	wantCode(t, api.Type{Nodes: large, Root: -1}, api.ErrInvalid)
}
