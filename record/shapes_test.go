package record_test

import (
	"math/rand"
	"slices"
	"testing"

	"semtype/api"
	"semtype/ident"
	"semtype/lines"
	rec "semtype/record"
	"semtype/samples"
	"semtype/value"
)

// Example 1.
func TestExampleOfFields(t *testing.T) {
	x := graph(kind(api.TAny), from(least, greatest), record(0, 0, field("a", 1)), record(0, 0, field("b", 1)))
	l := api.Line{Kind: api.VMap, Pos: only(2), Neg: only(3)}
	shapes, code := rec.Shapes(x, l)
	wanted := []api.Shape{
		shape(part(only(0)), part(only(0)), at{"a", present, part(only(1))}, at{"b", absent, api.Goal{}}),
		shape(part(only(0)), part(only(0)), at{"a", present, part(only(1))}, at{"b", present, part(only(0), 1)}),
	}
	if show(shapes) != show(wanted) || code != api.OK {
		t.Error(shapes, code)
	}
}

// Example 2: the other kind of keys is free, or has none.
func TestExampleOfSome(t *testing.T) {
	x := graph(kind(api.TAny), from(least, greatest), kind(api.TAtoms), record(1, 0), record(2, 0), record(0, 0), kind(api.TNone), record(0, 6), record(1, 1), record(2, 2))
	all := part(only(0))
	for i, c := range []struct {
		pos, neg []int
		wanted   api.Shape
	}{
		{only(5), only(3, 4), some(shape(all, all), 0, part(only(0), 1), part(only(0), 2))},
		{nil, only(3, 4), some(shape(part(nil), part(nil)), 0, part(nil, 1), part(nil, 2))},
		{only(7), only(8, 9), some(shape(all, part(only(6))), 0, part(only(0), 1), part(only(0), 2))},
	} {
		shapes, code := rec.Shapes(x, api.Line{Kind: api.VMap, Pos: c.pos, Neg: c.neg})
		if show(shapes) != show([]api.Shape{c.wanted}) || code != api.OK {
			t.Error(i, shapes, code)
		}
	}
}

// places has map nodes with none, one and several fields, over a few other nodes.
func places(t *testing.T) api.Type {
	t.Helper()
	x := graph(
		/* 0 */ kind(api.TAny), kind(api.TNone), from(least, greatest), kind(api.TAtoms), text(api.TVar, "A"), kind(api.TUnion, 2, 3),
		/* 6 */ record(0, 0), record(1, 1), record(2, 5), record(0, 3), record(1, 0),
		/* 11 */ record(0, 0, field("a", 2)), record(0, 0, optional("a", 2)), record(1, 1, field("a", 2)), record(1, 1, optional("a", 3)), record(0, 0, field("a", 0)), record(0, 0, optional("a", 1)), record(2, 2, field("a", 1)),
		/* 18 */ record(0, 1, field("a", 5), field("b", 4)), record(1, 1, field("a", 2), optional("b", 3), field("\"a", 4)), record(5, 4, optional("b", 2), field("\"a", 5)), record(0, 0, field("b", 2)), record(3, 0, optional("\"", 4)),
	)
	mustBeWellFormed(t, x)
	return x
}

const firstMap, lastMap = 6, 22

// P11.2: what the shapes of some lines are, as far as the document leaves no choice but their order.
func TestShapes(t *testing.T) {
	x := places(t)
	free, all, none, integer := part(nil), part(only(0)), part(only(1)), part(only(2))
	gone := api.Goal{}
	for i, c := range []struct {
		pos, neg []int
		wanted   []api.Shape
	}{
		{nil, nil, []api.Shape{shape(free, free)}},
		{only(6), nil, []api.Shape{shape(all, all)}},
		{only(7), nil, []api.Shape{shape(none, none)}},
		{only(8, 9, 8), nil, []api.Shape{shape(part(only(0, 2)), part(only(3, 5)))}},
		{only(11), nil, []api.Shape{shape(all, all, at{"a", present, integer})}},
		{only(12), nil, []api.Shape{shape(all, all, at{"a", either, integer})}},
		{only(11, 14), nil, []api.Shape{shape(part(only(0, 1)), part(only(0, 1)), at{"a", present, part(only(2, 3))})}},
		{only(11, 8), nil, []api.Shape{shape(part(only(0, 2)), part(only(0, 5)), at{"a", present, integer})}},
		{only(11, 7), nil, nil},
		{only(17), nil, nil},
		{only(16), nil, []api.Shape{shape(all, all, at{"a", absent, gone})}},
		{only(12, 7), nil, []api.Shape{shape(part(only(0, 1)), part(only(0, 1)), at{"a", absent, gone})}},
		{only(19), nil, []api.Shape{shape(none, none, at{"a", present, integer}, at{"b", either, part(only(3))}, at{"\"a", present, part(only(4))})}},

		{nil, only(6), nil},
		{nil, only(7), []api.Shape{some(shape(free, free), 0, free), some(shape(free, free), 1, free)}},
		{nil, only(10), []api.Shape{some(shape(free, free), 0, free)}},
		{nil, only(9), []api.Shape{some(shape(free, free), 1, part(nil, 3))}},
		{only(9), only(9), nil},
		{only(8), only(9), []api.Shape{some(shape(integer, part(only(5))), 1, part(only(5), 3))}},
		{only(7), only(8), nil},
		{nil, only(11), []api.Shape{shape(free, free, at{"a", absent, gone}), shape(free, free, at{"a", present, part(nil, 2)})}},
		{nil, only(12), []api.Shape{shape(free, free, at{"a", present, part(nil, 2)})}},
		{nil, only(15), []api.Shape{shape(free, free, at{"a", absent, gone})}},
		{nil, only(16), []api.Shape{shape(free, free, at{"a", present, free})}},
		{nil, only(15, 16), nil},
		{nil, only(11, 12), []api.Shape{shape(free, free, at{"a", present, part(nil, 2)})}},
		{nil, only(11, 15), []api.Shape{shape(free, free, at{"a", absent, gone})}},
		{only(11), only(12), nil},
		{only(12), only(11), []api.Shape{shape(all, all, at{"a", absent, gone})}},
		{only(11), only(15), nil},
		{only(11), only(16), []api.Shape{shape(all, all, at{"a", present, integer})}},
		{only(7), only(11), []api.Shape{shape(none, none, at{"a", absent, gone})}},
		{only(7), only(12), nil},
		{only(13), only(7), []api.Shape{shape(none, none, at{"a", present, integer})}},
		{only(14), only(7), []api.Shape{shape(none, none, at{"a", present, part(only(3))})}},
		{only(6), only(8), []api.Shape{some(shape(all, all), 0, part(only(0), 2)), some(shape(all, all), 1, part(only(0), 5))}},
		{only(6), only(11, 21), []api.Shape{
			shape(all, all, at{"a", absent, gone}, at{"b", absent, gone}),
			shape(all, all, at{"a", present, part(only(0), 2)}, at{"b", absent, gone}),
			shape(all, all, at{"a", absent, gone}, at{"b", present, part(only(0), 2)}),
			shape(all, all, at{"a", present, part(only(0), 2)}, at{"b", present, part(only(0), 2)}),
		}},
		{only(21), only(18), []api.Shape{
			shape(all, all, at{"a", absent, gone}, at{"b", present, integer}),
			shape(all, all, at{"a", present, part(only(0), 5)}, at{"b", present, integer}),
			shape(all, all, at{"a", either, all}, at{"b", present, part(only(2), 4)}),
			some(shape(all, all, at{"a", either, all}, at{"b", present, integer}), 1, all),
		}},
		{only(15), only(22), []api.Shape{
			shape(all, all, at{"a", present, part(only(0), 3)}, at{"\"", either, all}),
			shape(all, all, at{"a", present, all}, at{"\"", present, part(only(0), 4)}),
			some(shape(all, all, at{"a", present, all}, at{"\"", either, all}), 0, part(only(0), 3)),
		}},
		{only(11), only(22), []api.Shape{shape(all, all, at{"a", present, integer}, at{"\"", either, all})}},
		{only(11), only(14), []api.Shape{shape(all, all, at{"a", present, integer})}},
		{only(12), only(14), []api.Shape{shape(all, all, at{"a", present, integer}), some(shape(all, all, at{"a", either, integer}), 0, all), some(shape(all, all, at{"a", either, integer}), 1, all)}},
	} {
		shapes, code := rec.Shapes(x, api.Line{Kind: api.VMap, Pos: c.pos, Neg: c.neg})
		if sorted(shapes) != sorted(c.wanted) || code != api.OK {
			t.Errorf("%d: %+v %v", i, shapes, code)
		}
	}
}

func sorted(shapes []api.Shape) string {
	var l []string
	for _, s := range shapes {
		l = append(l, show(s))
	}
	slices.Sort(l)
	return show(l)
}

// checkShapes checks the shapes of a line: their form, and that the maps with its labels are in the line exactly if they are in some shape. It returns how many are.
func checkShapes(t *testing.T, x api.Type, l api.Line, values []api.Value) (found int) {
	t.Helper()
	shapes, code := rec.Shapes(x, l)
	if code != api.OK {
		t.Fatal(code, x, l)
	}
	for _, s := range shapes {
		checkForm(t, x, l, s)
	}
	for _, v := range values {
		if !fits(v, l) {
			continue
		}
		is := lines.InLine(v, x, l)
		if is {
			found++
		}
		if slices.ContainsFunc(shapes, func(s api.Shape) bool { return rec.InShape(v, x, s) }) != is {
			t.Fatalf("%+v in %+v of %+v should be %v, and the shapes are %+v", v, l, x, is, shapes)
		}
	}
	return found
}

func checkForm(t *testing.T, x api.Type, l api.Line, s api.Shape) {
	t.Helper()
	var wanted []api.Key
	for _, n := range slices.Concat(l.Pos, l.Neg) {
		for _, f := range x.Nodes[n].Fields {
			wanted = append(wanted, f.Key)
		}
	}
	slices.SortFunc(wanted, ident.CompareKeys)
	if !slices.Equal(s.Keys, slices.Compact(wanted)) || len(s.States) != len(s.Keys) || len(s.Parts) != len(s.Keys) {
		t.Fatalf("%+v of %+v should have the keys %v", s, l, wanted)
	}
	for i, state := range s.States {
		if state != absent && state != present && state != either || state == absent && show(s.Parts[i]) != show(api.Goal{}) {
			t.Fatalf("%+v of %+v", s, l)
		}
	}
	isOther := func(g api.Goal) bool { return !isNormal(x, g) || g.Lists }
	if slices.ContainsFunc(goalsOf(s), isOther) || slices.ContainsFunc(s.Some, func(e api.SomeKey) bool { return e.Kind != 0 && e.Kind != 1 }) {
		t.Fatalf("%+v of %+v", s, l)
	}
}

// P11.2: up to two nodes in Pos and in Neg, with some Vars and NotVars, and maps over the listed keys, some of them, and others.
func TestPairs(t *testing.T) {
	x := places(t)
	parts := []api.Value{value.Int(1), value.Atom("a"), label(value.Int(2), "A")}
	values := everyMap([]string{"a", "b", "c", "\"", "\"a", "\"b"}, parts...)
	for i, v := range values {
		values[i] = label(v, [][]string{nil, {"A"}, {"B", "C"}, {"A", "B"}}[i%4]...)
	}
	names := [][2][]string{{}, {{"A"}, nil}, {nil, {"A"}}, {{"B"}, {"A"}}, {{"A", "B"}, {"C"}}}
	r := rand.New(rand.NewSource(3))
	found, tried := 0, 0
	for _, pos := range upToTwo() {
		for _, neg := range upToTwo() {
			if tried++; tried%10 > 0 && len(pos)+len(neg) > 2 {
				continue
			}
			l := api.Line{Kind: api.VMap, Pos: pos, Neg: neg, Vars: names[tried%len(names)][0], NotVars: names[tried%len(names)][1]}
			first := r.Intn(len(values) - 25)
			found += checkShapes(t, x, l, append(values[first:first+25:first+25], values[:25]...))
		}
	}
	if found < 5000 {
		t.Error(found, tried)
	}
}

func upToTwo() [][]int {
	lists := [][]int{nil}
	for n := firstMap; n <= lastMap; n++ {
		lists = append(lists, only(n))
		for m := firstMap; m < n; m++ {
			lists = append(lists, only(n, m))
		}
	}
	return lists
}

// P11.2: single nodes, and all maps over a few keys.
func TestSingleNodes(t *testing.T) {
	x := places(t)
	values := everyMap([]string{"a", "b", "\"a", "\"b"}, value.Int(1), value.Atom("a"), label(value.Atom("a"), "A"))
	for n := firstMap; n <= lastMap; n++ {
		in := checkShapes(t, x, api.Line{Kind: api.VMap, Pos: only(n)}, values)
		out := checkShapes(t, x, api.Line{Kind: api.VMap, Neg: only(n)}, values)
		if in+out != len(values) {
			t.Error(n, in, out)
		}
	}
}

// P11.2: random lines of random types, among them those of goals.
func TestRandomLines(t *testing.T) {
	r := rand.New(rand.NewSource(4))
	values := randomMaps(r, 400)
	found := map[bool]int{}
	for range 2500 {
		x := samples.RandomType(r, 3+r.Intn(14))
		maps := mapNodes(x)
		l := []api.Line{{Kind: api.VMap}}
		for range min(len(maps), 1) * r.Intn(3) {
			l[0].Pos = append(l[0].Pos, maps[r.Intn(len(maps))])
		}
		for range min(len(maps), 1) * r.Intn(4) {
			l[0].Neg = append(l[0].Neg, maps[r.Intn(len(maps))])
		}
		for _, line := range lines.Lines(x, part(only(r.Intn(len(x.Nodes))), r.Intn(len(x.Nodes)))) {
			if line.Kind == api.VMap {
				l = append(l, line)
			}
		}
		for _, line := range l {
			first := r.Intn(len(values) - 20)
			in := checkShapes(t, x, line, values[first:first+20])
			found[len(line.Pos)+len(line.Neg) > 1 && in > 0]++
		}
	}
	if found[true] < 150 {
		t.Error(found)
	}
}

func mapNodes(x api.Type) (l []int) {
	for n, node := range x.Nodes {
		if node.Kind == api.TMap {
			l = append(l, n)
		}
	}
	return l
}

// Nodes that are known to have all values there are no way to be outside, so that types with several nodes for the same have few shapes.
func TestKnownNodes(t *testing.T) {
	for i, c := range []struct {
		in, out api.TypeNode
		known   bool
	}{
		{from(0, 9), from(0, 9), true}, {from(1, 8), from(0, 9), true}, {from(0, 9), from(1, 9), false}, {from(0, 9), from(0, 8), false}, {from(least, greatest), from(least, greatest), true}, {kind(api.TAtoms), from(0, 9), false},
		{text(api.TString, "a"), text(api.TString, "a"), true}, {text(api.TString, "a"), text(api.TString, "b"), false}, {text(api.TString, "a"), text(api.TAtom, "a"), false}, {kind(api.TStrings), text(api.TString, ""), false},
		{text(api.TAtom, "a"), text(api.TAtom, "a"), true}, {text(api.TAtom, "a"), text(api.TAtom, "b"), false}, {text(api.TVar, "A"), text(api.TVar, "A"), true}, {text(api.TVar, "A"), text(api.TVar, "B"), false},
		{text(api.TString, "a"), kind(api.TStrings), true}, {kind(api.TStrings), kind(api.TStrings), true}, {text(api.TAtom, "a"), kind(api.TStrings), false},
		{text(api.TAtom, "a"), kind(api.TAtoms), true}, {kind(api.TAtoms), kind(api.TAtoms), true}, {kind(api.TStrings), kind(api.TAtoms), false}, {kind(api.TAtoms), text(api.TAtom, "a"), false},
		{kind(api.TTuple, 0), kind(api.TTuples), true}, {kind(api.TTuples), kind(api.TTuples), true}, {kind(api.TTuples), kind(api.TTuple), false}, {kind(api.TCons, 0, 0), kind(api.TTuples), false},
		{kind(api.TFun, 0), kind(api.TFuns), true}, {kind(api.TFuns), kind(api.TFuns), true}, {kind(api.TFuns), kind(api.TFun, 0), false}, {kind(api.TTuples), kind(api.TFuns), false},
		{kind(api.TPid), kind(api.TPid), true}, {kind(api.TNil), kind(api.TNil), true}, {kind(api.TNil), kind(api.TPid), false}, {kind(api.TPid), kind(api.TAny), true}, {kind(api.TAny), kind(api.TAny), true}, {kind(api.TAny), kind(api.TPid), false},
	} {
		x := graph(kind(api.TAny), c.in, c.out, record(0, 0, field("a", 1)), record(0, 0, field("a", 2)), record(1, 0), record(2, 0))
		mustBeWellFormed(t, x)
		for pos := 3; pos < 7; pos += 2 {
			if shapes, code := rec.Shapes(x, api.Line{Kind: api.VMap, Pos: only(pos), Neg: only(pos + 1)}); (len(shapes) == 0) != c.known || code != api.OK {
				t.Error(i, shapes, code)
			}
			checkShapes(t, x, api.Line{Kind: api.VMap, Pos: only(pos), Neg: only(pos + 1)}, everyMap([]string{"a", "b"}, samples.Simple()...))
		}
	}
}

// P11.2: what nodes without a common value leave no choice about: a key that is there violates the node, whatever its value is.
func TestNodesApart(t *testing.T) {
	x := graph(kind(api.TAny), from(0, 9), from(10, 19), record(0, 0, field("a", 1)), record(0, 0, field("a", 2)), record(0, 0, optional("a", 1)), record(0, 0, optional("a", 2)), record(1, 0), record(2, 0))
	mustBeWellFormed(t, x)
	all, first := part(only(0)), part(only(1))
	for i, c := range []struct {
		pos, neg int
		wanted   []api.Shape
	}{
		{3, 4, []api.Shape{shape(all, all, at{"a", present, first})}},
		{3, 6, []api.Shape{shape(all, all, at{"a", present, first})}},
		{5, 4, []api.Shape{shape(all, all, at{"a", absent, api.Goal{}}), shape(all, all, at{"a", present, first})}},
		{5, 6, []api.Shape{shape(all, all, at{"a", present, first})}},
		{7, 8, []api.Shape{some(shape(first, all), 0, first)}},
		{7, 4, []api.Shape{shape(first, all, at{"a", absent, api.Goal{}}), shape(first, all, at{"a", present, first})}},
		{3, 8, []api.Shape{shape(all, all, at{"a", present, first})}},
	} {
		l := api.Line{Kind: api.VMap, Pos: only(c.pos), Neg: only(c.neg)}
		shapes, code := rec.Shapes(x, l)
		if sorted(shapes) != sorted(c.wanted) || code != api.OK {
			t.Errorf("%d: %+v", i, shapes)
		}
		checkShapes(t, x, l, everyMap([]string{"a", "b", "\""}, value.Int(1), value.Int(11), value.Int(20)))
	}
}

// P11.2: Vars and NotVars, and what other kinds use, do not count.
func TestOtherFields(t *testing.T) {
	x := places(t)
	l := api.Line{Kind: api.VMap, Pos: only(11, 20), Neg: only(18, 22)}
	wanted, _ := rec.Shapes(x, l)
	l.Vars, l.NotVars = []string{"A", "", "a"}, []string{"B", "A"}
	l.Arity, l.Ints, l.Names = least, []api.Range{{Lo: 1, Hi: 0}}, api.Names{List: []string{"b", "a"}}
	if shapes, code := rec.Shapes(x, l); show(shapes) != show(wanted) || len(wanted) == 0 || code != api.OK {
		t.Error(shapes, code)
	}
}

// P11.2: lines of another kind are the first error, whatever else is wrong.
func TestOtherKinds(t *testing.T) {
	for _, k := range []int{api.VInt, api.VString, api.VAtom, api.VPid, api.VNil, api.VTuple, api.VCons, api.VFun, 0, -1, api.VFun + 1, least, greatest} {
		for _, l := range []api.Line{{Kind: k}, {Kind: k, Pos: only(11)}, {Kind: k, Neg: only(-1)}, {Kind: k, Pos: only(1000)}} {
			for _, x := range append(samples.InvalidTypes(), places(t)) {
				if shapes, code := rec.Shapes(x, l); len(shapes) > 0 || code != api.ErrKind {
					t.Error(k, x, shapes, code)
				}
			}
		}
	}
}

// P11.2: types that are not well-formed, also at nodes that the line has nothing to do with.
func TestInvalidTypes(t *testing.T) {
	damaged, outside := places(t), places(t)
	damaged.Nodes = append(damaged.Nodes, kind(api.TNot, len(damaged.Nodes)))
	outside.Root = len(outside.Nodes)
	for _, x := range append(samples.InvalidTypes(), damaged, outside) {
		for _, l := range []api.Line{{Kind: api.VMap}, {Kind: api.VMap, Pos: only(11)}, {Kind: api.VMap, Neg: only(0)}, {Kind: api.VMap, Neg: only(-1)}} {
			if shapes, code := rec.Shapes(x, l); len(shapes) > 0 || code != api.ErrInvalid {
				t.Error(x, l, shapes, code)
			}
		}
	}
}

// P11.2: indices that are not those of TMap nodes, also where no map is in the line anyway.
func TestInvalidNodes(t *testing.T) {
	x := places(t)
	x.Nodes = append(x.Nodes, kind(api.TTuple, 0), kind(api.TFun, 0), kind(api.TUnion, 11, 12), kind(api.TInter, 11), kind(api.TNot, 11), kind(api.TCons, 0, 0))
	mustBeWellFormed(t, x)
	numbers := []int{least, greatest}
	for n := -2; n < len(x.Nodes)+2; n++ {
		numbers = append(numbers, n)
	}
	for _, n := range numbers {
		wanted := api.ErrInvalid
		if firstMap <= n && n <= lastMap {
			wanted = api.OK
		}
		for _, c := range [][2][]int{{only(n), nil}, {nil, only(n)}, {only(n), only(n)}, {only(17, n), nil}, {only(17), only(n)}, {only(11), only(11, n)}, {only(n, 6, 7), only(8)}} {
			if shapes, code := rec.Shapes(x, api.Line{Kind: api.VMap, Pos: c[0], Neg: c[1]}); code != wanted || code != api.OK && len(shapes) > 0 {
				t.Error(c, shapes, code)
			}
		}
	}
}
