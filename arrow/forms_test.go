package arrow_test

import (
	"math/rand"
	"slices"
	"testing"

	"semtype/api"
	"semtype/arrow"
	"semtype/lines"
	"semtype/samples"
	"semtype/typeexpr"
)

// Example 1.
func TestExampleForms(t *testing.T) {
	x := graph(from(least, greatest), kind(api.TAtoms), kind(api.TFun, 0, 0), kind(api.TFun, 1, 0))
	mustBeWellFormed(t, x)
	forms, code := arrow.Forms(x, only(2), 3)
	if code != api.OK {
		t.Fatal(code)
	}
	for _, e := range []api.Entry{fails(a), maps(a, a), fails(one), maps(one, one), maps(a, one), maps(one, a)} {
		isAtom := e.Args[0].Kind == api.VAtom
		wanted := isAtom && (e.Fails || e.Result.Kind != api.VInt)
		if isSome(e, x, forms) != wanted || arrow.Allowed(e, x, only(2)) && !arrow.Allowed(e, x, only(3)) != wanted {
			t.Error(e, forms)
		}
	}
}

func isSome(e api.Entry, x api.Type, forms []api.EntryForm) bool {
	return slices.ContainsFunc(forms, func(f api.EntryForm) bool { return arrow.InForm(e, x, f) })
}

// The example's words: a choice for each node of pos, where nothing shows that it is needless.
func TestForms(t *testing.T) {
	vars := func(names string) (l []api.TypeNode) {
		for _, name := range names {
			l = append(l, text(api.TVar, string(name)))
		}
		return l
	}
	x := graph(append(vars("ABCDEF"),
		/* 6 */ kind(api.TFun, 0), kind(api.TFun, 1), kind(api.TFun, 2),
		/* 9 */ kind(api.TFun, 0, 1), kind(api.TFun, 2, 3), kind(api.TFun, 4, 5), kind(api.TFun, 0, 3), kind(api.TFun, 2, 1),
		/* 14 */ kind(api.TFun, 0, 1, 2), kind(api.TFun, 3, 4, 5), kind(api.TFun, 0, 4, 2), kind(api.TFun, 0, 1, 5),
		/* 18 */ kind(api.TFun, 0, 0, 1, 1, 2), kind(api.TFun, 3, 3, 4, 4, 5))...)
	mustBeWellFormed(t, x)
	p := func(n int, neg ...int) api.Goal { return part(only(n), neg...) }
	r := func(n int, pos ...int) api.Goal { return part(pos, n) }
	for i, c := range []struct {
		pos    []int
		neg    int
		wanted []api.EntryForm
	}{
		{nil, 6, []api.EntryForm{failing(), form(r(0))}},
		{only(7), 6, []api.EntryForm{form(r(0, 1))}},
		{only(8, 7, 8), 6, []api.EntryForm{form(r(0, 1, 2))}},
		{only(6), 6, nil},
		{only(7, 6), 6, nil},

		{nil, 9, []api.EntryForm{failing(p(0)), form(p(0), r(1))}},
		{only(9), 9, nil},
		{only(10, 9), 9, nil},
		{only(10), 9, []api.EntryForm{failing(p(0, 2)), form(p(0, 2), r(1)), form(p(0), r(1, 3))}},
		{only(10, 10), 9, []api.EntryForm{failing(p(0, 2)), form(p(0, 2), r(1)), form(p(0), r(1, 3))}},
		{only(12), 9, []api.EntryForm{form(p(0), r(1, 3))}},
		{only(13), 9, []api.EntryForm{failing(p(0, 2)), form(p(0, 2), r(1))}},
		{only(12, 13), 9, []api.EntryForm{form(p(0, 2), r(1, 3))}},
		{only(11, 10), 9, []api.EntryForm{failing(p(0, 2, 4)), form(p(0, 2, 4), r(1)), form(p(0, 2), r(1, 5)), form(p(0, 4), r(1, 3)), form(p(0), r(1, 3, 5))}},

		{nil, 14, []api.EntryForm{failing(p(0), p(1)), form(p(0), p(1), r(2))}},
		{only(15), 14, []api.EntryForm{failing(p(0, 3), p(1)), failing(p(0), p(1, 4)), form(p(0, 3), p(1), r(2)), form(p(0), p(1, 4), r(2)), form(p(0), p(1), r(2, 5))}},
		{only(16), 14, []api.EntryForm{failing(p(0), p(1, 4)), form(p(0), p(1, 4), r(2))}},
		{only(17), 14, []api.EntryForm{form(p(0), p(1), r(2, 5))}},
		{only(15, 16), 14, []api.EntryForm{failing(p(0), p(1, 4)), form(p(0), p(1, 4), r(2))}},
		{only(15, 17), 14, []api.EntryForm{form(p(0), p(1), r(2, 5))}},
		{only(14, 15), 14, nil},

		{nil, 18, []api.EntryForm{failing(p(0), p(0), p(1), p(1)), form(p(0), p(0), p(1), p(1), r(2))}},
		{only(19), 18, []api.EntryForm{
			failing(p(0, 3), p(0), p(1), p(1)), failing(p(0), p(0, 3), p(1), p(1)), failing(p(0), p(0), p(1, 4), p(1)), failing(p(0), p(0), p(1), p(1, 4)),
			form(p(0, 3), p(0), p(1), p(1), r(2)), form(p(0), p(0, 3), p(1), p(1), r(2)), form(p(0), p(0), p(1, 4), p(1), r(2)), form(p(0), p(0), p(1), p(1, 4), r(2)), form(p(0), p(0), p(1), p(1), r(2, 5)),
		}},
	} {
		forms, code := arrow.Forms(x, c.pos, c.neg)
		if sorted(forms) != sorted(c.wanted) || code != api.OK {
			t.Errorf("%d: %+v %v", i, forms, code)
		}
	}
}

func sorted(forms []api.EntryForm) string {
	var l []string
	for _, f := range forms {
		l = append(l, show(f))
	}
	slices.Sort(l)
	return show(l)
}

// check checks the goals of the forms, and for each of the entries whether it is in a form. It returns how many are.
func check(t *testing.T, x api.Type, pos []int, neg int, entries []api.Entry) (found int) {
	t.Helper()
	forms, code := arrow.Forms(x, pos, neg)
	if code != api.OK {
		t.Fatal(pos, neg, code)
	}
	for _, f := range forms {
		isOther := func(g api.Goal) bool { return !isNormal(x, g) }
		if slices.ContainsFunc(goalsOf(f), isOther) || len(f.Args) != len(x.Nodes[neg].Kids)-1 || f.Fails && show(f.Result) != show(api.Goal{}) {
			t.Fatalf("%v %d: %+v", pos, neg, f)
		}
	}
	for _, e := range entries {
		is := isAllowed(e, x, pos) && !isAllowed(e, x, only(neg))
		if is {
			found++
		}
		if isSome(e, x, forms) != is {
			t.Fatalf("%+v less %+v should be %t for %v, and the forms are %+v", pos, neg, is, e, forms)
		}
	}
	return found
}

// isNormal reports whether the goal is in normal form, over nodes of x.
func isNormal(x api.Type, g api.Goal) bool {
	isOther := func(n int) bool { return n < 0 || n >= len(x.Nodes) }
	return show(lines.Normal(g)) == show(g) && !slices.ContainsFunc(g.Pos, isOther) && !slices.ContainsFunc(g.Neg, isOther)
}

// P12.2: each node of the zoo less each list of up to two of the others, or of random ones.
func TestAllForms(t *testing.T) {
	x := zoo(t)
	r := rand.New(rand.NewSource(2))
	for arity := range api.MaxArity + 1 {
		nodes, all := functions(x, arity), entries(arity)
		found := map[bool]int{}
		for _, neg := range nodes {
			for _, pos := range append(lists(nodes), someNodes(r, nodes, 5), someNodes(r, nodes, 5), someNodes(r, nodes, 5)) {
				some := all
				if most := 40 << arity; len(all) > most {
					i := r.Intn(len(all) - most)
					some = all[i : i+most]
				}
				found[check(t, x, pos, neg, some) > 0]++
			}
		}
		if found[true] < 5 || found[false] < 5 {
			t.Error(arity, found)
		}
	}
}

// P12.2: random types.
func TestRandomForms(t *testing.T) {
	r := rand.New(rand.NewSource(3))
	values := samples.Values()
	found := map[bool]int{}
	for range 3000 {
		x := samples.RandomType(r, 2+r.Intn(8))
		arity := r.Intn(3)
		for range 3 {
			kids := make([]int, arity+1)
			for i := range kids {
				kids[i] = r.Intn(len(x.Nodes))
			}
			x.Nodes = append(x.Nodes, kind(api.TFun, kids...))
		}
		nodes := functions(x, arity)
		var some []api.Entry
		for i := range 30 {
			var l []api.Value
			for range arity + 1 {
				l = append(l, values[r.Intn(len(values))])
			}
			if i%3 == 0 {
				some = append(some, fails(l[:arity]...))
			} else {
				some = append(some, maps(l...))
			}
		}
		found[check(t, x, someNodes(r, nodes, 4), nodes[r.Intn(len(nodes))], some) > 0]++
	}
	if found[true] < 400 || found[false] < 800 {
		t.Error(found)
	}
}

// What a node shows to be needless is left out: parameters that are apart, or within each other, and results that are.
func TestNeedlessForms(t *testing.T) {
	x := zoo(t)
	for i, c := range []struct {
		pos   []int
		neg   int
		forms int
	}{
		{nil, noneToNone, 0},
		{only(allToAll), noneToNone, 0},
		{nil, noneAllToFive, 0},
		{nil, toAll, 1},
		{nil, allToAll, 1},
		{only(atomToEither), digitToDigit, 2},
		{only(atomToEither, notDigitToAtom, noneToNone), digitToDigit, 2},
		{only(integerToDigit), fiveToInteger, 0},
		{only(integerToDigit), digitToDigit, 0},
		{only(allToNone), digitToDigit, 0},
		{only(allToAll), digitToDigit, 1},
		{only(bothToAll), digitToDigit, 2},
		{only(fiveToInteger), digitToDigit, 3},
		{only(digitAtomToDigit), atomDigitToAtom, 2},
	} {
		if forms, code := arrow.Forms(x, c.pos, c.neg); len(forms) != c.forms || code != api.OK {
			t.Errorf("%d: %+v", i, forms)
		}
	}
}

// P12.2: types that are not well-formed, indices of no function nodes, and nodes whose numbers of Kids differ.
func TestInvalidForms(t *testing.T) {
	isInvalid := func(x api.Type, pos []int, neg int) {
		t.Helper()
		if forms, code := arrow.Forms(x, pos, neg); len(forms) > 0 || code != api.ErrInvalid {
			t.Error(x, pos, neg, code)
		}
	}
	for _, x := range samples.InvalidTypes() {
		for n := range len(x.Nodes) + 1 {
			isInvalid(x, nil, n)
			isInvalid(x, only(n), n)
		}
		x.Nodes = append(x.Nodes, kind(api.TFun, 0))
		if last := len(x.Nodes) - 1; typeexpr.WellFormed(x) != api.OK {
			isInvalid(x, nil, last)
			isInvalid(x, only(last), last)
		}
	}
	x := zoo(t)
	for n := -3; n < firstFunction; n++ {
		for _, other := range []int{n, allNodes + n + 3} {
			isInvalid(x, nil, other)
			isInvalid(x, only(digitToDigit), other)
			isInvalid(x, only(other), other)
			isInvalid(x, only(other), digitToDigit)
			isInvalid(x, only(digitToDigit, other), digitToDigit)
			isInvalid(x, only(other, digitToDigit), allToAll)
		}
	}
	for _, n := range only(least, greatest) {
		isInvalid(x, nil, n)
		isInvalid(x, only(n), toDigit)
	}
	for m := firstFunction; m < allNodes; m++ {
		for n := firstFunction; n < allNodes; n++ {
			if len(x.Nodes[m].Kids) != len(x.Nodes[n].Kids) {
				isInvalid(x, only(m), n)
				isInvalid(x, only(n, m), n)
				isInvalid(x, only(m, n), n)
			}
		}
	}
}
