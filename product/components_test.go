package product_test

import (
	"math/rand"
	"slices"
	"testing"

	"semtype/api"
	"semtype/lines"
	"semtype/product"
	"semtype/samples"
	"semtype/value"
)

// fits reports whether the value has the kind and Arity of the line, Vars among its Labels and none of NotVars.
func fits(v api.Value, l api.Line) bool {
	isLabel := func(name string) bool { return slices.Contains(v.Labels, name) }
	for _, name := range l.Vars {
		if !isLabel(name) {
			return false
		}
	}
	return v.Kind == l.Kind && (v.Kind != api.VTuple || len(v.Kids) == l.Arity) && !slices.ContainsFunc(l.NotVars, isLabel)
}

// checkComponents checks the boxes of a line: their form, and that the values of its kind, Arity and Labels are in the line exactly if their Kids are in some box. It returns how many are.
func checkComponents(t *testing.T, x api.Type, l api.Line, values []api.Value) (found int) {
	t.Helper()
	boxes, code := product.Components(x, l)
	if code != api.OK {
		t.Fatal(code, x, l)
	}
	checkForm(t, l, boxes)
	for _, v := range values {
		if !fits(v, l) {
			continue
		}
		is := lines.InLine(v, x, l)
		if is {
			found++
		}
		if slices.ContainsFunc(boxes, func(b api.Box) bool { return product.InBox(v.Kids, x, b) }) != is {
			t.Fatalf("%+v in %+v of %+v should be %v, and the boxes are %+v", v, l, x, is, boxes)
		}
	}
	return found
}

func checkForm(t *testing.T, l api.Line, boxes []api.Box) {
	t.Helper()
	width := l.Arity
	if l.Kind == api.VCons {
		width = 2
		for i, b := range boxes {
			if len(b.Parts) != 2 || !b.Parts[1].Lists {
				t.Fatal(l, b)
			}
			boxes[i] = box(b.Parts[0], part(b.Parts[1].Pos, b.Parts[1].Neg...))
		}
		defer func() {
			for _, b := range boxes {
				b.Parts[1].Lists = true
			}
		}()
	}
	wellFormed(t, width, boxes)
}

// zoo has tuples of each number of Kids, and conses, all of them over the first nodes.
func zoo(t *testing.T) api.Type {
	t.Helper()
	x := graph(
		/* 0 */ kind(api.TAny), kind(api.TNone), from(least, 0), from(0, greatest), kind(api.TAtoms), text(api.TAtom, "a"), kind(api.TNil), text(api.TVar, "A"), kind(api.TUnion, 6, 11), kind(api.TNot, 2),
		/* 10 */ kind(api.TCons, 0, 0), kind(api.TCons, 0, 8), kind(api.TCons, 2, 6), kind(api.TCons, 3, 11), kind(api.TCons, 9, 7), kind(api.TCons, 1, 6), kind(api.TCons, 4, 4),
		/* 17 */ kind(api.TTuple), kind(api.TTuple),
		/* 19 */ kind(api.TTuple, 0), kind(api.TTuple, 1), kind(api.TTuple, 2), kind(api.TTuple, 3), kind(api.TTuple, 7), kind(api.TTuple, 24),
		/* 25 */ kind(api.TTuple, 0, 0), kind(api.TTuple, 2, 0), kind(api.TTuple, 5, 3), kind(api.TTuple, 9, 9), kind(api.TTuple, 0, 7), kind(api.TTuple, 3, 3), kind(api.TTuple, 2, 0),
		/* 32 */ kind(api.TTuple, 0, 0, 0), kind(api.TTuple, 2, 3, 2), kind(api.TTuple, 4, 9, 0), kind(api.TTuple, 0, 0, 7),
		/* 36 */ kind(api.TTuple, 0, 0, 0, 0), kind(api.TTuple, 2, 3, 2, 3), kind(api.TTuple, 9, 0, 9, 4), kind(api.TTuple, 8, 9, 0, 7),
	)
	mustBeWellFormed(t, x)
	return x
}

// linesWithout returns lines without nodes of each kind and arity with components.
func linesWithout() []api.Line {
	l := []api.Line{{Kind: api.VCons}}
	for arity := range api.MaxArity + 1 {
		l = append(l, api.Line{Kind: api.VTuple, Arity: arity})
	}
	return l
}

// nodesOf returns the nodes that the line may have.
func nodesOf(x api.Type, l api.Line) (indices []int) {
	for n, node := range x.Nodes {
		if l.Kind == api.VCons && node.Kind == api.TCons || l.Kind == api.VTuple && node.Kind == api.TTuple && len(node.Kids) == l.Arity {
			indices = append(indices, n)
		}
	}
	return indices
}

// P10.3: what the boxes of some lines are, as far as the document leaves no choice.
func TestComponents(t *testing.T) {
	x := zoo(t)
	for i, c := range []struct {
		l      api.Line
		wanted []api.Box
	}{
		{api.Line{Kind: api.VTuple}, []api.Box{box()}},
		{api.Line{Kind: api.VTuple, Pos: only(17)}, []api.Box{box()}},
		{api.Line{Kind: api.VTuple, Neg: only(18)}, nil},
		{api.Line{Kind: api.VTuple, Arity: 1}, []api.Box{box(part(nil))}},
		{api.Line{Kind: api.VTuple, Arity: 1, Pos: only(22, 21)}, []api.Box{box(part(only(2, 3)))}},
		{api.Line{Kind: api.VTuple, Arity: 1, Neg: only(22, 21)}, []api.Box{box(part(nil, 2, 3))}},
		{api.Line{Kind: api.VTuple, Arity: 1, Pos: only(23), Neg: only(22, 21, 22), Vars: []string{"B"}, NotVars: []string{"C"}}, []api.Box{box(part(only(7), 2, 3))}},
		{api.Line{Kind: api.VTuple, Arity: 2, Pos: only(26), Neg: only(31)}, nil},
		{api.Line{Kind: api.VTuple, Arity: 4, Pos: only(39, 38)}, []api.Box{box(part(only(8, 9)), part(only(0, 9)), part(only(0, 9)), part(only(4, 7)))}},
		{api.Line{Kind: api.VCons}, []api.Box{box(part(nil), onlyLists(part(nil)))}},
		{api.Line{Kind: api.VCons, Arity: 7, Pos: only(12)}, []api.Box{box(part(only(2)), onlyLists(part(only(6))))}},
		{api.Line{Kind: api.VCons, Pos: only(10), Neg: only(11)}, []api.Box{box(part(only(0)), onlyLists(part(only(0), 8)))}},
	} {
		if boxes, code := product.Components(x, c.l); show(boxes) != show(c.wanted) || code != api.OK {
			t.Error(i, boxes, code)
		}
	}
}

// P10.3: for each kind and arity, up to two nodes in Pos and in Neg, with some Vars and NotVars.
func TestPairs(t *testing.T) {
	x := zoo(t)
	values := products()
	names := [][2][]string{{}, {{"A"}, nil}, {nil, {"A"}}, {{"B"}, {"A"}}, {{"A", "B"}, {"C"}}}
	for _, l := range linesWithout() {
		found, tried := 0, 0
		nodes := nodesOf(x, l)
		for _, pos := range upToTwo(nodes) {
			for _, neg := range upToTwo(nodes) {
				l.Pos, l.Neg = pos, neg
				tried++
				l.Vars, l.NotVars = names[tried%len(names)][0], names[tried%len(names)][1]
				found += checkComponents(t, x, l, values)
			}
		}
		if found < tried/2 {
			t.Error(l.Kind, l.Arity, found, tried)
		}
	}
}

// products returns all tuples and conses of a few parts, with and without labels.
func products() (l []api.Value) {
	parts := []api.Value{value.Int(-1), value.Int(0), value.Atom("a"), label(value.Int(1), "A"), label(value.List(value.Int(3)), "A")}
	kids := [][]api.Value{nil}
	for first := range api.MaxArity + 1 {
		for _, list := range kids {
			if len(list) == first {
				labels := [][]string{nil, {"A"}, {"B", "C"}, {"A", "B"}}[len(l)%4]
				l = append(l, label(value.Tuple(list...), labels...))
				for _, part := range parts[min(first/2, 1):] {
					kids = append(kids, append(slices.Clone(list), part))
				}
			}
		}
	}
	for _, head := range parts {
		for _, tail := range []api.Value{value.Nil(), value.List(value.Int(2)), parts[4], value.List(value.Atom("a"), value.Int(1))} {
			l = append(l, value.Cons(head, tail), label(value.Cons(head, tail), "B"))
		}
	}
	return append(l, samples.Values()...)
}

func upToTwo(l []int) [][]int {
	lists := [][]int{nil}
	for i, n := range l {
		lists = append(lists, only(n))
		for _, m := range l[:i] {
			lists = append(lists, only(n, m))
		}
	}
	return lists
}

// P10.3: random lines of random types, among them those of goals, whose values with parts are in some box of some line.
func TestRandomLines(t *testing.T) {
	all, r := samples.Values(), rand.New(rand.NewSource(13))
	hasKids := func(v api.Value) bool { return v.Kind != api.VTuple && v.Kind != api.VCons }
	all = slices.DeleteFunc(all, hasKids)
	found := 0
	for range 400 {
		x := samples.RandomType(r, 2+r.Intn(14))
		l := linesWithout()
		for i := range l {
			nodes := nodesOf(x, l[i])
			for range min(len(nodes), 1) * r.Intn(5) {
				l[i].Pos = append(l[i].Pos, nodes[r.Intn(len(nodes))])
			}
			for range min(len(nodes), 1) * r.Intn(5) {
				l[i].Neg = append(l[i].Neg, nodes[r.Intn(len(nodes))])
			}
		}
		for _, line := range lines.Lines(x, part(someNodes(r, x, 2), someNodes(r, x, 2)...)) {
			if line.Kind == api.VTuple || line.Kind == api.VCons {
				l = append(l, line)
			}
		}
		for _, line := range l {
			found += checkComponents(t, x, line, all)
		}
	}
	if found < 1000 {
		t.Error(found)
	}
}

// P10.3: Vars and NotVars, and what other kinds use, do not count.
func TestOtherFields(t *testing.T) {
	x := zoo(t)
	for _, l := range linesWithout() {
		l.Pos, l.Neg = nodesOf(x, l)[:1], nodesOf(x, l)[1:2]
		wanted, _ := product.Components(x, l)
		l.Vars, l.NotVars = []string{"A", "", "a"}, []string{"B", "A"}
		l.Ints, l.Names = []api.Range{{Lo: 1, Hi: 0}}, api.Names{List: []string{"b", "a"}}
		if boxes, code := product.Components(x, l); show(boxes) != show(wanted) || code != api.OK {
			t.Error(l, boxes, code)
		}
	}
	for _, arity := range []int{-1, 0, 1, 3, api.MaxArity + 1, least, greatest} {
		l := api.Line{Kind: api.VCons, Arity: arity, Pos: only(12)}
		if boxes, code := product.Components(x, l); len(boxes) != 1 || len(boxes[0].Parts) != 2 || code != api.OK {
			t.Error(arity, boxes, code)
		}
	}
}

// P10.3: lines of another kind are the first error, whatever else is wrong.
func TestOtherKinds(t *testing.T) {
	x := zoo(t)
	for _, k := range []int{api.VInt, api.VString, api.VAtom, api.VPid, api.VNil, api.VMap, api.VFun, 0, -1, api.VFun + 1, least, greatest} {
		for _, l := range []api.Line{{Kind: k}, {Kind: k, Arity: 2, Pos: only(25)}, {Kind: k, Arity: -1, Neg: only(-1)}, {Kind: k, Pos: only(1000)}} {
			for _, x := range append(samples.InvalidTypes(), x) {
				if boxes, code := product.Components(x, l); len(boxes) > 0 || code != api.ErrKind {
					t.Error(k, x, boxes, code)
				}
			}
		}
	}
}

// P10.3: types that are not well-formed, also at nodes that the line has nothing to do with, and whatever its Arity is.
func TestInvalidTypes(t *testing.T) {
	damaged := zoo(t)
	damaged.Nodes = append(damaged.Nodes, kind(api.TNot, len(damaged.Nodes)))
	outside := zoo(t)
	outside.Root = len(outside.Nodes)
	for _, x := range append(samples.InvalidTypes(), damaged, outside) {
		for _, l := range append(linesWithout(), api.Line{Kind: api.VTuple, Arity: -1}, api.Line{Kind: api.VTuple, Arity: api.MaxArity + 1}, api.Line{Kind: api.VTuple, Arity: 1, Pos: only(19)}, api.Line{Kind: api.VCons, Neg: only(11)}) {
			if boxes, code := product.Components(x, l); len(boxes) > 0 || code != api.ErrInvalid {
				t.Error(x, l, boxes, code)
			}
		}
	}
}

// P10.3: indices that are not those of nodes of the kind with as many Kids.
func TestInvalidNodes(t *testing.T) {
	x := zoo(t)
	x.Nodes = append(x.Nodes, kind(api.TFun, 0), kind(api.TFun, 0, 0), kind(api.TUnion, 19, 25), kind(api.TInter, 10, 10), kind(api.TNot, 17), samples.Record(0, 0), kind(api.TTuples), kind(api.TFuns))
	mustBeWellFormed(t, x)
	for _, l := range append(linesWithout(), api.Line{Kind: api.VTuple, Arity: -1}, api.Line{Kind: api.VTuple, Arity: api.MaxArity + 1}, api.Line{Kind: api.VTuple, Arity: least}, api.Line{Kind: api.VTuple, Arity: greatest}) {
		good := nodesOf(x, l)
		for n := -2; n < len(x.Nodes)+2; n++ {
			wanted := api.ErrInvalid
			if slices.Contains(good, n) {
				wanted = api.OK
			}
			for _, with := range [][]int{only(n), only(slices.Concat(good, only(n))...), only(slices.Concat(only(n), good)...)} {
				for _, c := range [][2][]int{{with, nil}, {nil, with}, {good, with}, {with, good}, {with, with}} {
					l.Pos, l.Neg = c[0], c[1]
					if boxes, code := product.Components(x, l); code != wanted || code != api.OK && len(boxes) > 0 {
						t.Error(l, boxes, code)
					}
				}
			}
		}
		for _, n := range []int{least, greatest} {
			for _, c := range [][2][]int{{only(n), nil}, {nil, only(n)}, {good, only(n)}} {
				l.Pos, l.Neg = c[0], c[1]
				if boxes, code := product.Components(x, l); code != api.ErrInvalid || len(boxes) > 0 {
					t.Error(l, boxes, code)
				}
			}
		}
	}
}

// P10.3: a line without nodes whose Arity no tuple has.
func TestInvalidArity(t *testing.T) {
	for _, arity := range []int{-1, api.MaxArity + 1, 1 << 40, least, greatest} {
		if boxes, code := product.Components(zoo(t), api.Line{Kind: api.VTuple, Arity: arity}); len(boxes) > 0 || code != api.OK {
			t.Error(arity, boxes, code)
		}
	}
}

// P10.3: the tail of a cons is a list, whatever the nodes of the line say.
func TestTails(t *testing.T) {
	x := zoo(t)
	one := value.Int(1)
	for _, l := range []api.Line{{Kind: api.VCons}, {Kind: api.VCons, Pos: only(10)}, {Kind: api.VCons, Neg: only(16)}, {Kind: api.VCons, Pos: only(10), Neg: only(12, 15)}} {
		boxes, _ := product.Components(x, l)
		isIn := func(v ...api.Value) bool {
			return slices.ContainsFunc(boxes, func(b api.Box) bool { return product.InBox(v, x, b) })
		}
		if !isIn(one, value.Nil()) || !isIn(one, value.List(one)) || isIn(one, one) || isIn(one, value.Tuple()) || isIn(one) || isIn(one, value.Nil(), value.Nil()) {
			t.Error(l, boxes)
		}
	}
}

// What nodes show to be needless is left out: rows that are outside anyway, and parts that are within others.
func TestNeedlessBoxes(t *testing.T) {
	x := graph(
		/* 0 */ kind(api.TAny), kind(api.TNone), from(0, 9), from(0, 5), text(api.TAtom, "a"), text(api.TAtom, "b"), kind(api.TAtoms), text(api.TVar, "A"),
		/* 8 */ kind(api.TTuple, 4, 2), kind(api.TTuple, 4, 3), kind(api.TTuple, 5, 2), kind(api.TTuple, 6, 2), kind(api.TTuple, 6, 3), kind(api.TTuple, 0, 2), kind(api.TTuple, 0, 0), kind(api.TTuple, 1, 7), kind(api.TTuple, 7, 7),
		/* 17 */ kind(api.TCons, 2, 7), kind(api.TCons, 3, 7), kind(api.TCons, 4, 7), kind(api.TCons, 0, 0), kind(api.TCons, 0, 7),
	)
	mustBeWellFormed(t, x)
	for i, c := range []struct {
		kind     int
		pos, neg []int
		boxes    int
	}{
		{api.VTuple, only(8), only(9), 1},
		{api.VTuple, only(8), only(10), 1},
		{api.VTuple, only(8), only(11), 0},
		{api.VTuple, only(8), only(12), 1},
		{api.VTuple, only(8), only(16), 2},
		{api.VTuple, only(9), only(8), 0},
		{api.VTuple, only(9), only(8, 16), 0},
		{api.VTuple, only(16), only(8), 2},
		{api.VTuple, only(16, 9), only(8), 0},
		{api.VTuple, only(16, 9), only(10), 1},
		{api.VTuple, nil, only(8), 2},
		{api.VTuple, nil, only(8, 16), 4},
		{api.VTuple, nil, only(8, 13), 1},
		{api.VTuple, nil, only(13), 1},
		{api.VTuple, nil, only(14), 0},
		{api.VTuple, nil, only(15), 1},
		{api.VTuple, nil, only(15, 8), 2},
		{api.VCons, only(17), only(18), 1},
		{api.VCons, only(18), only(17), 0},
		{api.VCons, only(17), only(19), 1},
		{api.VCons, nil, only(19), 2},
		{api.VCons, nil, only(20), 0},
		{api.VCons, nil, only(21), 1},
	} {
		l := api.Line{Kind: c.kind, Pos: c.pos, Neg: c.neg}
		if c.kind == api.VTuple {
			l.Arity = 2
		}
		if boxes, code := product.Components(x, l); len(boxes) != c.boxes || code != api.OK {
			t.Errorf("%d: %+v %v", i, boxes, code)
		}
		checkComponents(t, x, l, samples.Values())
	}
}
