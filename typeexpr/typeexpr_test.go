package typeexpr_test

import (
	"fmt"
	"math"
	"slices"
	"strings"
	"testing"

	"semtype/api"
	"semtype/typeexpr"
	"semtype/value"
)

const (
	least    = math.MinInt64
	greatest = math.MaxInt64
)

// show writes a type so that nil and empty slices look the same.
func show(x api.Type) string { return fmt.Sprint(x) }

func rootOf(x api.Type) api.TypeNode { return x.Nodes[x.Root] }

func isNone(x api.Type) bool {
	return len(x.Nodes) == 1 && show(x) == show(graph(leafOf(api.TNone)))
}

// ranges builds a list from pairs of bounds.
func ranges(bounds ...int64) []api.Range {
	var l []api.Range
	for i := 0; i+1 < len(bounds); i += 2 {
		l = append(l, api.Range{Lo: bounds[i], Hi: bounds[i+1]})
	}
	return l
}

var digit = typeexpr.Ints(ranges(0, 9))

// The examples of the chapter.
func TestExamples(t *testing.T) {
	lists := graph(kids(api.TUnion, 1, 2), leafOf(api.TNil), kids(api.TCons, 3, 0), api.TypeNode{Kind: api.TInt, Hi: 9})
	wantCode(t, lists, api.OK)
	long := value.List(value.Int(0), value.Int(9), value.Int(5))
	for _, x := range []api.Type{lists, typeexpr.ListOf(digit)} {
		if !member(value.Nil(), x) || !member(long, x) || member(value.Int(1), x) || member(value.List(value.Int(0), value.Int(10)), x) {
			t.Error(x)
		}
	}
	wantCode(t, graph(kids(api.TNot, 0)), api.ErrLoop)
}

// P7.4: the lists of members of types with few and many nodes.
func TestListOf(t *testing.T) {
	three, ten := value.Int(3), value.Int(10)
	for number := range int64(70) {
		element := digit
		for n := range number {
			element = typeexpr.Union(element, typeexpr.Ints(ranges(20+n, 20+n)))
		}
		x := typeexpr.ListOf(element)
		last := value.Int(19 + number)
		if typeexpr.WellFormed(x) != api.OK || !member(value.List(three), x) || !member(value.List(three, value.Int(0), three), x) || member(value.List(last), x) != (number > 0) {
			t.Error(number, "a list is no member")
		}
		if member(value.List(ten), x) || member(value.List(three, ten), x) || member(value.Cons(three, value.Tuple()), x) || member(three, x) {
			t.Error(number, "another value is a member")
		}
	}
}

// P7.4: None and Any, and what stands for no types, one type and many types.
func TestNoneAndAny(t *testing.T) {
	if rootOf(typeexpr.None()).Kind != api.TNone || rootOf(typeexpr.Any()).Kind != api.TAny {
		t.Error(typeexpr.None(), typeexpr.Any())
	}
	values := someValues(t)
	always, never := func(api.Value) bool { return true }, func(api.Value) bool { return false }
	same(t, "None", typeexpr.None(), values, never)
	same(t, "Any", typeexpr.Any(), values, always)
	same(t, "Union of nothing", typeexpr.Union(), values, never)
	same(t, "Union of nothing", typeexpr.Union([]api.Type{}...), values, never)
	same(t, "Intersect of nothing", typeexpr.Intersect(), values, always)
	inside := func(v api.Value) bool { return member(v, digit) }
	same(t, "Union of one", typeexpr.Union(digit), values, inside)
	same(t, "Intersect of one", typeexpr.Intersect(digit), values, inside)
	same(t, "Complement of None", typeexpr.Complement(typeexpr.None()), values, always)
	same(t, "Complement of Any", typeexpr.Complement(typeexpr.Any()), values, never)
	same(t, "Difference to itself", typeexpr.Difference(digit, digit), values, never)
	same(t, "Difference to None", typeexpr.Difference(digit, typeexpr.None()), values, inside)
	var many []api.Type
	for n := range int64(1000) {
		many = append(many, typeexpr.Ints(ranges(n-10, n-10)))
	}
	same(t, "Union of many", typeexpr.Union(many...), values, func(v api.Value) bool { return v.Kind == api.VInt && -10 <= v.Int && v.Int < 990 })
	for i := range many {
		many[i] = typeexpr.Complement(many[i])
	}
	same(t, "Intersect of many", typeexpr.Intersect(many...), values, func(v api.Value) bool { return v.Kind != api.VInt || -10 > v.Int || v.Int >= 990 })
}

// P7.4: sets of integers in any form, up to both ends.
func TestInts(t *testing.T) {
	values := someValues(t)
	for _, n := range []int64{least, least + 1, -2, 2, 3, 8, 11, greatest - 1} {
		values = append(values, value.Int(n), value.WithLabels(value.Int(n), "A", "C"))
	}
	for _, s := range [][]api.Range{
		nil, {}, ranges(0, 0), ranges(1, 9), ranges(least, greatest), ranges(least, least), ranges(greatest, greatest), ranges(least, -1, 1, greatest),
		ranges(1, 0), ranges(greatest, least), ranges(9, 1, 2, 3), ranges(5, 10, -1, 6, 9, 9), ranges(0, 1, 0, 1), ranges(1, greatest, least, 0),
	} {
		same(t, fmt.Sprint(s), typeexpr.Ints(s), values, func(v api.Value) bool {
			return v.Kind == api.VInt && slices.ContainsFunc(s, func(r api.Range) bool { return r.Lo <= v.Int && v.Int <= r.Hi })
		})
	}
}

// P7.4: finite and cofinite sets, in any order, with texts that do not count.
func TestStringsAndAtoms(t *testing.T) {
	text, name := strings.Repeat("z", api.MaxText), strings.Repeat("z", api.MaxName)
	values := someValues(t)
	for _, list := range [][]string{
		nil, {}, {"a"}, {"b", "a", "b"}, {""}, {text}, {text + "z"}, {name}, {name + "z"}, {"B", "\x00"}, {"A", "é", "a b", "_", "9"},
		{text + "z", "a", name + "z", text, name, "c_1", ""},
	} {
		for _, cofinite := range []bool{false, true} {
			s := api.Names{Cofinite: cofinite, List: list}
			in := func(kind int) func(v api.Value) bool {
				return func(v api.Value) bool { return v.Kind == kind && slices.Contains(list, v.Text) != cofinite }
			}
			same(t, fmt.Sprint("Strings of ", s), typeexpr.Strings(s), values, in(api.VString))
			same(t, fmt.Sprint("Atoms of ", s), typeexpr.Atoms(s), values, in(api.VAtom))
		}
	}
}

// Names that do not count, ranges that meet and connectives of one type take no nodes.
func TestSmallTypes(t *testing.T) {
	cofinite := func(list ...string) api.Names { return api.Names{Cofinite: true, List: list} }
	for _, c := range []struct {
		t, wanted api.Type
	}{
		{typeexpr.Ints(ranges(0, 4, 5, 9)), digit}, {typeexpr.Ints(ranges(3, 2)), typeexpr.None()}, {typeexpr.Union(digit), digit}, {typeexpr.Intersect(digit), digit},
		{typeexpr.Strings(cofinite()), graph(leafOf(api.TStrings))}, {typeexpr.Atoms(cofinite("A", "a b")), graph(leafOf(api.TAtoms))},
		{typeexpr.Atoms(api.Names{List: []string{"A", "a", "a b"}}), graph(api.TypeNode{Kind: api.TAtom, Text: "a"})},
	} {
		if show(c.t) != show(c.wanted) {
			t.Errorf("got %v, not %v", c.t, c.wanted)
		}
	}
}

// P7.4: the roots of tuples, conses and functions, and how many parts they may have.
func TestComposites(t *testing.T) {
	var l []api.Type
	for count := range api.MaxArity + 3 {
		tuple, f := typeexpr.Tuple(l...), typeexpr.Function(l, typeexpr.Any())
		if count > api.MaxArity {
			if !isNone(tuple) || !isNone(f) {
				t.Errorf("%d parts: %v and %v", count, tuple, f)
			}
		} else {
			checkParts(t, tuple, api.TTuple, l...)
			checkParts(t, f, api.TFun, append(slices.Clone(l), typeexpr.Any())...)
		}
		n := int64(count)
		l = append(l, typeexpr.Ints(ranges(n, n)))
	}
	checkParts(t, typeexpr.Cons(l[0], l[1]), api.TCons, l[0], l[1])
	checkParts(t, typeexpr.Cons(l[1], l[1]), api.TCons, l[1], l[1])
	checkParts(t, typeexpr.Function([]api.Type{}, l[2]), api.TFun, l[2])
}

// checkParts takes parts of one node.
func checkParts(t *testing.T, x api.Type, kind int, l ...api.Type) {
	t.Helper()
	wantCode(t, x, api.OK)
	root := rootOf(x)
	if root.Kind != kind || len(root.Kids) != len(l) {
		t.Fatalf("kind %d: %v", kind, x)
	}
	for i, k := range root.Kids {
		if show(graph(x.Nodes[k])) != show(l[i]) {
			t.Errorf("part %d of %v", i, x)
		}
	}
}

// P7.4: names of type variables and others.
func TestVariable(t *testing.T) {
	for _, name := range []string{"A", "Ab_9", "A" + strings.Repeat("_", api.MaxName-1)} {
		x := typeexpr.Variable(name)
		if show(x) != show(graph(api.TypeNode{Kind: api.TVar, Text: name})) {
			t.Errorf("%q: %v", name, x)
		}
	}
	for _, name := range []string{"", "a", "_A", "9", "A b", "A" + strings.Repeat("a", api.MaxName), "É"} {
		if x := typeexpr.Variable(name); !isNone(x) {
			t.Errorf("%q: %v", name, x)
		}
	}
}

// allParts leads to a type variable by each way there is.
func allParts() api.Type {
	return api.Type{Root: 9, Nodes: []api.TypeNode{
		{Kind: api.TVar, Text: "C"}, {Kind: api.TVar, Text: "B"}, {Kind: api.TVar, Text: "F"}, {Kind: api.TVar, Text: "A"}, {Kind: api.TVar, Text: "C"}, {Kind: api.TVar, Text: "Unused"},
		kids(api.TFun, 0, 10), kids(api.TCons, 1, 9), kids(api.TTuple, 4, 7), kids(api.TUnion, 6, 8), kids(api.TInter, 11, 12), kids(api.TNot, 13),
		{Kind: api.TMap, Fields: []api.Field{{Key: key("a"), Node: 2}, {Key: key("\"a"), Node: 14, Optional: true}}, Rest: [2]int{3, 15}}, leafOf(api.TNil),
		{Kind: api.TVar, Text: "D"}, {Kind: api.TVar, Text: "E"}, kids(api.TTuple, 5, 9),
	}}
}

// P7.3: variables that are found by each way, twice, not at all, and at the root.
func TestVariables(t *testing.T) {
	cases := []struct {
		t      api.Type
		wanted []string
	}{
		{allParts(), []string{"A", "B", "C", "D", "E", "F"}}, {typeexpr.At(allParts(), 16), []string{"A", "B", "C", "D", "E", "F", "Unused"}},
		{typeexpr.At(allParts(), 5), []string{"Unused"}}, {typeexpr.At(allParts(), 13), nil}, {typeexpr.At(allParts(), 11), nil},
		{typeexpr.At(allParts(), 12), []string{"A", "D", "E", "F"}}, {typeexpr.Any(), nil}, {digit, nil},
		{graph(kids(api.TTuple, 1, 2, 1), api.TypeNode{Kind: api.TVar, Text: "Ab"}, api.TypeNode{Kind: api.TVar, Text: "AB"}), []string{"AB", "Ab"}},
		{graph(kids(api.TTuple, 1, 2), api.TypeNode{Kind: api.TString, Text: "A"}, api.TypeNode{Kind: api.TAtom, Text: "a"}), nil},
	}
	for _, c := range cases {
		if got := typeexpr.Variables(c.t); !slices.Equal(got, c.wanted) {
			t.Errorf("Variables(%v) = %v", c.t, got)
		}
		if got := typeexpr.IsGround(c.t); got != (c.wanted == nil) {
			t.Errorf("IsGround(%v) = %v", c.t, got)
		}
	}
}

// raised writes the node with its indices raised.
func raised(node api.TypeNode, by int) string {
	kids, fields := slices.Clone(node.Kids), slices.Clone(node.Fields)
	for i := range kids {
		kids[i] += by
	}
	for i := range fields {
		fields[i].Node += by
	}
	if node.Kind == api.TMap {
		node.Rest[0] += by
		node.Rest[1] += by
	}
	node.Kids, node.Fields = kids, fields
	return fmt.Sprint(node)
}

// P7.5: the nodes of both types, also those that are not reached, the root of the first one and the index of that of the second one.
func TestJoin(t *testing.T) {
	none := graph(leafOf(api.TNone))
	cases := [][4]api.Type{
		{allParts(), allParts()}, {digit, allParts()}, {allParts(), typeexpr.ListOf(digit)},
		{allParts(), {}, allParts(), none}, {{}, allParts(), none, allParts()}, {graph(kids(api.TNot, 0)), {Root: 3}, none, none},
		{typeexpr.ListOf(digit), graph(leafOf(api.TNil), kids(api.TNot, 1)), typeexpr.ListOf(digit), none},
	}
	for _, c := range cases {
		s, u := c[0], c[1]
		if c[2].Nodes != nil {
			s, u = c[2], c[3]
		}
		got, root := typeexpr.Join(c[0], c[1])
		if got.Root != s.Root || root != len(s.Nodes)+u.Root || len(got.Nodes) != len(s.Nodes)+len(u.Nodes) {
			t.Fatalf("Join(%v, %v) = %v, %v", c[0], c[1], got, root)
		}
		for i, node := range got.Nodes {
			wanted := ""
			if i < len(s.Nodes) {
				wanted = raised(s.Nodes[i], 0)
			} else {
				wanted = raised(u.Nodes[i-len(s.Nodes)], len(s.Nodes))
			}
			if raised(node, 0) != wanted {
				t.Errorf("Join(%v, %v): node %d is %v", c[0], c[1], i, node)
			}
		}
	}
}

// P7.5: the first, the last and no node.
func TestAt(t *testing.T) {
	x := allParts()
	for n := range x.Nodes {
		if got := typeexpr.At(x, n); show(got) != show(api.Type{Nodes: x.Nodes, Root: n}) {
			t.Errorf("At(%v, %d) = %v", x, n, got)
		}
	}
	for _, n := range []int{-1, len(x.Nodes), len(x.Nodes) + 1, math.MaxInt, math.MinInt} {
		if got := typeexpr.At(x, n); !isNone(got) {
			t.Errorf("At(%v, %d) = %v", x, n, got)
		}
	}
}

// P7.5: nodes that are not reached, before, between and behind those that are.
func TestPrune(t *testing.T) {
	x := api.Type{Root: 3, Nodes: []api.TypeNode{
		leafOf(api.TAny), leafOf(api.TNil), kids(api.TTuple, 3, 0), kids(api.TUnion, 1, 5), {Kind: api.TMap}, kids(api.TCons, 6, 3), {Kind: api.TInt, Hi: 9}, kids(api.TNot, 2),
	}}
	got := typeexpr.Prune(x)
	if len(got.Nodes) != 4 || len(reachedFrom(got)) != 4 {
		t.Errorf("got %v", got)
	}
	same(t, "Prune", got, someValues(t), func(v api.Value) bool { return member(v, x) })
	if got := typeexpr.Prune(typeexpr.At(x, 6)); show(got) != show(digit) {
		t.Errorf("got %v", got)
	}
}

func bind(name string, x api.Type) api.Binding { return api.Binding{Name: name, Type: x} }

// P7.6: no binding, two for one name, types with the variables that are replaced, and a variable that is the type itself.
func TestSubstitute(t *testing.T) {
	a, b, c := typeexpr.Variable("A"), typeexpr.Variable("B"), typeexpr.Variable("C")
	pair := typeexpr.Tuple(a, b)
	none := typeexpr.None()
	cases := []struct {
		t      api.Type
		l      []api.Binding
		wanted api.Type
	}{
		{pair, nil, pair}, {pair, []api.Binding{}, pair}, {pair, []api.Binding{bind("C", digit), bind("", digit), bind("a", digit)}, pair},
		{pair, []api.Binding{bind("A", digit)}, typeexpr.Tuple(digit, b)}, {pair, []api.Binding{bind("B", digit), bind("B", c)}, typeexpr.Tuple(a, digit)},
		{pair, []api.Binding{bind("A", b), bind("B", a)}, typeexpr.Tuple(b, a)}, {pair, []api.Binding{bind("B", pair), bind("A", pair), bind("B", c)}, typeexpr.Tuple(pair, pair)},
		{pair, []api.Binding{bind("A", typeexpr.ListOf(a))}, typeexpr.Tuple(typeexpr.ListOf(a), b)},
		{a, []api.Binding{bind("A", pair)}, pair}, {a, []api.Binding{bind("A", a)}, a}, {typeexpr.Complement(a), []api.Binding{bind("A", typeexpr.Complement(a))}, typeexpr.Complement(typeexpr.Complement(a))},
		{typeexpr.ListOf(a), []api.Binding{bind("A", typeexpr.ListOf(digit))}, typeexpr.ListOf(typeexpr.ListOf(digit))},
		{pair, []api.Binding{bind("A", api.Type{}), bind("A", digit)}, typeexpr.Tuple(none, b)}, {pair, []api.Binding{bind("B", graph(kids(api.TNot, 0)))}, typeexpr.Tuple(a, none)},
		{typeexpr.Tuple(), []api.Binding{bind("A", digit)}, typeexpr.Tuple()},
		{typeexpr.Tuple(typeexpr.Strings(api.Names{List: []string{"A"}})), []api.Binding{bind("A", digit)}, typeexpr.Tuple(typeexpr.Strings(api.Names{List: []string{"A"}}))},
		{typeexpr.Tuple(typeexpr.Strings(api.Names{List: []string{"A"}}), a), []api.Binding{bind("A", digit)}, typeexpr.Tuple(typeexpr.Strings(api.Names{List: []string{"A"}}), digit)},
	}
	for i, x := range cases {
		got := typeexpr.Substitute(x.t, x.l)
		wantCode(t, got, api.OK)
		if expand(got, got.Root, 9, nil) != expand(x.wanted, x.wanted.Root, 9, nil) {
			t.Errorf("case %d: %v", i, got)
		}
	}
}

// P7.6: type variables in all places.
func TestSubstituteEverywhere(t *testing.T) {
	x := allParts()
	var l []api.Binding
	instead := map[string]func(int) string{}
	for n, name := range typeexpr.Variables(x) {
		y := typeexpr.Tuple(typeexpr.Ints(ranges(int64(n), int64(n))), x)
		l, instead[name] = append(l, bind(name, y)), func(depth int) string { return expand(y, y.Root, depth, nil) }
	}
	got := typeexpr.Substitute(x, l)
	if typeexpr.WellFormed(got) != api.OK || expand(got, got.Root, 8, nil) != expand(x, x.Root, 8, instead) {
		t.Errorf("got %v", got)
	}
}

// P7.2: all functions take a type that is not well-formed as None().
func TestTypesThatAreNotWellFormed(t *testing.T) {
	values, none, v := someValues(t), typeexpr.None(), typeexpr.Variable("A")
	bad := []api.Type{
		{}, {Root: 1, Nodes: v.Nodes}, {Root: -1, Nodes: v.Nodes}, graph(kids(api.TNot, 0)), graph(v.Nodes[0], kids(api.TUnion, 1)), graph(v.Nodes[0], leafOf(0)),
		graph(kids(api.TTuple, 1, 2), v.Nodes[0]), graph(kids(api.TUnion, 1), v.Nodes[0], kids(api.TFun)),
	}
	for _, x := range bad {
		if got := typeexpr.Variables(x); got != nil || !typeexpr.IsGround(x) {
			t.Errorf("%v has variables %v", x, got)
		}
		for n := range 3 {
			if got := typeexpr.At(x, n-1); !isNone(got) {
				t.Errorf("At(%v, %d) = %v", x, n-1, got)
			}
		}
		if !isNone(typeexpr.Prune(x)) || !isNone(typeexpr.Substitute(x, []api.Binding{bind("A", digit)})) {
			t.Errorf("Prune or Substitute of %v", x)
		}
		pairs := map[string][2]api.Type{
			"Union": {typeexpr.Union(x, digit), digit}, "Union of one": {typeexpr.Union(x), none}, "Intersect": {typeexpr.Intersect(digit, x), none}, "Intersect of one": {typeexpr.Intersect(x), none},
			"Complement": {typeexpr.Complement(x), typeexpr.Any()}, "Difference": {typeexpr.Difference(x, digit), none}, "Difference to it": {typeexpr.Difference(digit, x), digit},
			"Tuple": {typeexpr.Tuple(digit, x), typeexpr.Tuple(digit, none)}, "Cons": {typeexpr.Cons(x, digit), typeexpr.Cons(none, digit)}, "tail": {typeexpr.Cons(digit, x), none},
			"ListOf": {typeexpr.ListOf(x), typeexpr.ListOf(none)}, "parameter": {typeexpr.Function([]api.Type{x}, digit), typeexpr.Function([]api.Type{none}, digit)},
			"result": {typeexpr.Function([]api.Type{v}, x), typeexpr.Function([]api.Type{v}, none)}, "binding": {typeexpr.Substitute(typeexpr.Tuple(v), []api.Binding{bind("A", x)}), typeexpr.Tuple(none)},
		}
		for what, p := range pairs {
			same(t, what, p[0], values, func(v api.Value) bool { return member(v, p[1]) })
		}
	}
}

// R1, R8: types that are larger and deeper than the limits.
func TestLargeTypes(t *testing.T) {
	const size = 100000
	for _, kind := range []int{api.TNot, api.TTuple, api.TUnion, api.TCons} {
		x := api.Type{Nodes: make([]api.TypeNode, size, size+1)}
		for i := range x.Nodes {
			x.Nodes[i] = kids(kind, i+1)
			if kind == api.TCons {
				x.Nodes[i].Kids = []int{i + 1, size}
			}
		}
		x.Nodes = append(x.Nodes, api.TypeNode{Kind: api.TVar, Text: "A"})
		y := typeexpr.Substitute(typeexpr.Union(x, typeexpr.Prune(x)), []api.Binding{bind("A", typeexpr.At(x, size/2))})
		if typeexpr.WellFormed(y) != api.OK || len(y.Nodes) < 2*size || !slices.Equal(typeexpr.Variables(y), []string{"A"}) {
			t.Errorf("kind %d: %d nodes", kind, len(y.Nodes))
		}
		x.Nodes[size] = kids(api.TNot, size)
		wantCode(t, x, api.ErrLoop)
	}
}
