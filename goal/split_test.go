package goal_test

import (
	"math/rand"
	"slices"
	"testing"

	"semtype/api"
	"semtype/goal"
	"semtype/lines"
	"semtype/samples"
	"semtype/value"
)

// expectSplit checks the index and the parts of a split, and that nothing fits if the index is negative.
func expectSplit(t *testing.T, name any, x api.Type, l []api.Alternative, v api.Value, index int, wanted ...api.Value) {
	t.Helper()
	i, parts, ok := goal.Split(x, l, v)
	if index < 0 {
		if i != 0 || len(parts) > 0 || ok {
			t.Errorf("%v: %d %+v %t", name, i, parts, ok)
		}
		return
	}
	if i != index || !slices.EqualFunc(parts, wanted, value.Equal) || !ok {
		t.Errorf("%v: %d %+v %t", name, i, parts, ok)
	}
}

// leaves has an alternative of each kind without parts.
func leaves() []api.Alternative {
	return []api.Alternative{{Leaf: one}, {Leaf: value.String("a")}, {Leaf: a}, {Leaf: value.Pid(0)}, {Leaf: empty}}
}

// P13.3: the kind decides for values without parts, with any labels.
func TestSplitLeaves(t *testing.T) {
	x := zoo(t)
	for i, l := range [][]api.Value{{one, ten, value.Int(least)}, {value.String(""), value.String("a")}, {a, b}, {value.Pid(0), value.Pid(9)}, {empty}} {
		for _, v := range append(l, label(l[0], "A"), label(l[0], "A", "B")) {
			expectSplit(t, v, x, leaves(), v, i)
			expectSplit(t, v, x, leaves()[:i+1], v, i)
			expectSplit(t, v, x, leaves()[:i], v, -1)
			expectSplit(t, v, x, []api.Alternative{{Leaf: label(l[0], "B")}}, v, 0)
			expectSplit(t, v, x, []api.Alternative{{Leaf: l[0], Subgoals: free(1)}}, v, -1)
		}
	}
	for _, v := range []api.Value{tuple(), value.List(one), dict(), fun(0), {}} {
		expectSplit(t, v, x, leaves(), v, -1)
	}
}

// P13.3: an empty list has no alternative that fits.
func TestSplitNothing(t *testing.T) {
	x := zoo(t)
	for _, v := range append(samples.Values(), samples.InvalidValues()...) {
		expectSplit(t, v, x, nil, v, -1)
		expectSplit(t, v, x, []api.Alternative{}, v, -1)
	}
}

// P13.3: the Kids in order.
func TestSplitProducts(t *testing.T) {
	x := zoo(t)
	pairOf := func(g, h api.Goal, labels ...string) api.Alternative {
		return api.Alternative{Leaf: leafOf(api.VTuple, labels...), Subgoals: []api.Goal{g, h}}
	}
	l := []api.Alternative{
		{Leaf: leafOf(api.VTuple)},
		{Leaf: leafOf(api.VTuple), Subgoals: []api.Goal{in(digit)}},
		pairOf(in(digit), in(atoms), "A"),
		pairOf(in(atoms), in(digit)),
		pairOf(both(only(integer), digit), api.Goal{Lists: true}, "A", "B"),
		{Leaf: leafOf(api.VTuple), Subgoals: []api.Goal{in(), in(variableA), in(), in(pair)}},
		{Leaf: leafOf(api.VCons), Subgoals: []api.Goal{in(digit), {Pos: only(nothing), Lists: true}}},
		{Leaf: leafOf(api.VCons, "A"), Subgoals: []api.Goal{in(digit), both(nil, nothing)}},
		{Leaf: leafOf(api.VCons, "A"), Subgoals: []api.Goal{in(digit), both(nil, nothing), in()}},
	}
	for i, c := range []struct {
		v     api.Value
		index int
	}{
		{tuple(), 0}, {label(tuple(), "A"), 0}, {tuple(one), 1}, {label(tuple(one), "B"), 1}, {tuple(ten), -1}, {tuple(empty), -1},
		{tuple(one, a), 2}, {label(tuple(one, label(a, "B")), "B"), 2}, {tuple(a, one), 3}, {tuple(one, one), -1}, {tuple(ten, empty), 4}, {tuple(ten, value.List(a, b)), 4}, {tuple(ten, tuple()), -1}, {tuple(ten, a), -1},
		{tuple(one, label(one, "A"), one, tuple(one, a)), 5}, {tuple(one, label(one, "B"), one, tuple(one, a)), -1}, {tuple(one, label(one, "A"), one, tuple(a, one)), -1}, {tuple(one, label(one, "A"), one), -1},
		{value.List(one), 6}, {value.List(one, a), 7}, {label(value.List(one, a), "B"), 7}, {value.List(a), -1}, {value.Cons(one, label(empty, "B")), 6},
		{dict("a", one), -1}, {fun(1, maps(one, a)), -1}, {one, -1}, {empty, -1},
	} {
		expectSplit(t, i, x, l, c.v, c.index, c.v.Kids...)
	}
}

// P13.3: the values of maps at some key, one of which may do for several subgoals.
func TestSplitMaps(t *testing.T) {
	x := zoo(t)
	mapOf := func(names []string, goals ...api.Goal) api.Alternative {
		return api.Alternative{Leaf: leafOf(api.VMap, "A"), Keys: keys(names...), Subgoals: goals}
	}
	names := func(l ...string) []string { return l }
	for i, c := range []struct {
		alt   api.Alternative
		v     api.Value
		parts []api.Value
	}{
		{mapOf(nil), dict(), []api.Value{}},
		{mapOf(nil), dict("a", one), []api.Value{}},
		{mapOf(names("a"), in(digit)), dict(), nil},
		{mapOf(names("a"), in(digit)), dict("a", one), []api.Value{one}},
		{mapOf(names("a"), in(digit)), dict("\"b", one), []api.Value{one}},
		{mapOf(names("a"), in(digit)), dict("a", a), nil},
		{mapOf(names("a"), in(digit)), dict("a", a, "b", b, "\"", one), []api.Value{one}},
		{mapOf(names("a", "b"), in(digit), in(atoms)), dict("a", a, "b", one), []api.Value{one, a}},
		{mapOf(names("a", "b"), in(digit), in(integer)), dict("c", one), []api.Value{one, one}},
		{mapOf(names("a", "b"), in(digit), in(atoms)), dict("a", one, "b", one), nil},
		{mapOf(names("a", "b"), in(digit), in(atoms)), label(dict("b", one, "\"b", a), "B"), []api.Value{one, a}},
		{mapOf(nil, in(digit)), dict("a", one), []api.Value{one}},
		{mapOf(names("a", "b")), dict("a", one), []api.Value{}},
		{mapOf(names("a"), both(only(open), closed)), dict("a", one, "b", dict("a", one, "b", a)), []api.Value{dict("a", one, "b", a)}},
		{mapOf(nil), tuple(), nil},
		{mapOf(names("a"), in(digit)), tuple(one), nil},
	} {
		index := 0
		if c.parts == nil {
			index = -1
		}
		expectSplit(t, i, x, []api.Alternative{c.alt}, c.v, index, c.parts...)
	}
}

// P13.3: for each form an entry.
func TestSplitFunctions(t *testing.T) {
	x := zoo(t)
	functionOf := func(arity int64, forms []api.Form, goals ...api.Goal) api.Alternative {
		return api.Alternative{Leaf: functionLeaf(arity, "A"), Forms: forms, Subgoals: goals}
	}
	f := func(l ...api.Form) []api.Form { return l }
	two := fun(1, fails(a), maps(one, a), maps(a, one), maps(ten, ten))
	for i, c := range []struct {
		alt   api.Alternative
		v     api.Value
		parts []api.Value
	}{
		{functionOf(0, nil), fun(0), []api.Value{}},
		{functionOf(1, nil), label(two, "B"), []api.Value{}},
		{functionOf(0, f(failing())), fun(0), nil},
		{functionOf(0, f(failing())), fun(0, fails()), []api.Value{}},
		{functionOf(0, f(failing())), fun(0, maps(one)), nil},
		{functionOf(0, f(failing(), failing())), fun(0, maps(one), fails()), []api.Value{}},
		{functionOf(0, f(form(0)), in(digit)), fun(0, fails()), nil},
		{functionOf(0, f(form(0)), in(digit)), fun(0, maps(a)), nil},
		{functionOf(0, f(form(0)), in(digit)), fun(0, fails(), maps(a), maps(one)), []api.Value{one}},
		{functionOf(0, f(form(1), form(0)), in(digit), in(atoms)), fun(0, maps(a), maps(one)), []api.Value{one, a}},

		{functionOf(1, f(failing(0)), in()), fun(1), nil},
		{functionOf(1, f(failing(0)), in()), two, []api.Value{a}},
		{functionOf(1, f(failing(0)), in(digit)), two, nil},
		{functionOf(1, f(form(0, 1)), in(atoms), in()), two, []api.Value{a, one}},
		{functionOf(1, f(form(1, 0)), in(atoms), in()), two, []api.Value{a, one}},
		{functionOf(1, f(form(0, 1)), in(digit), in(digit)), two, nil},
		{functionOf(1, f(form(0, 1)), both(only(integer), digit), in(integer)), two, []api.Value{ten, ten}},
		{functionOf(1, f(failing(0), form(1, 2)), in(), in(digit), in()), two, []api.Value{a, one, a}},
		{functionOf(1, f(failing(0), form(1, 2), form(3, 4)), in(), in(), in(digit), in(digit), in()), two, []api.Value{a, a, one, one, a}},
		{functionOf(1, f(failing(0), form(1, 2), form(3, 4)), in(), in(), in(digit), in(digit), in(integer)), two, nil},
		{functionOf(1, f(form(0, 1), form(2, 3)), in(digit), in(), in(digit), in()), two, []api.Value{one, a, one, a}},
		{functionOf(2, f(form(1, 2, 0)), in(atoms), in(digit), in(list)), fun(2, maps(one, empty, a), maps(one, value.List(a), b)), []api.Value{b, one, value.List(a)}},
		{functionOf(4, f(failing(0, 1, 2, 3)), in(digit), in(), in(), in(atoms)), label(fun(4, fails(one, empty, one, a)), "B"), []api.Value{one, empty, one, a}},
		{functionOf(4, f(failing(0, 1, 2, 3)), in(digit), in(), in(), in(atoms)), fun(4, fails(one, empty, one, one), fails(a, a, a, a)), nil},

		// Forms with another number of arguments, or with indices of no subgoal.
		{functionOf(1, f(failing()), in()), two, nil},
		{functionOf(1, f(form(0, 1, 1)), in(), in()), two, nil},
		{functionOf(1, f(form(0)), in()), two, nil},
		{functionOf(1, f(failing(1)), in()), two, nil},
		{functionOf(1, f(failing(-1)), in()), two, nil},
		{functionOf(1, f(form(0, 1)), in()), two, nil},
		{functionOf(1, f(form(greatest, 0)), in()), two, nil},
		{functionOf(1, f(api.Form{Args: only(0), Fails: true, Result: 9}), in()), two, []api.Value{a}},

		// Subgoals that several forms share, and subgoals of no form.
		{functionOf(1, f(form(0, 0)), in()), two, []api.Value{ten}},
		{functionOf(1, f(form(0, 0)), in(digit)), two, nil},
		{functionOf(1, f(form(0, 1), form(1, 0)), both(nil, integer), in()), two, []api.Value{a, one}},
		{functionOf(1, f(form(0, 1), form(1, 2)), in(), in(), in(digit)), two, []api.Value{one, a, one}},
		{functionOf(1, f(failing(0), form(1, 0)), in(), in()), two, []api.Value{a, one}},
		{functionOf(1, f(failing(0), form(0, 1)), in(), in(atoms)), two, nil},
		{functionOf(1, f(form(0, 1), failing(2), form(1, 0), failing(2)), in(digit), in(), in()), two, []api.Value{one, a, a}},
		{functionOf(1, nil, in(digit), both(only(integer), digit), in(digit)), two, []api.Value{one, ten, one}},
		{functionOf(1, f(failing(1)), both(only(integer), digit), in()), two, []api.Value{ten, a}},
		{functionOf(1, f(failing(1)), in(tuples), in()), two, nil},
		{functionOf(1, nil, in()), fun(1), nil},
		{functionOf(1, nil, in(tuples)), fun(1, fails(a)), nil},
		{functionOf(1, nil), tuple(), nil},
	} {
		index := 0
		if c.parts == nil {
			index = -1
		}
		expectSplit(t, i, x, []api.Alternative{c.alt}, c.v, index, c.parts...)
	}
}

// P13.3: the arity of a function need not be that of the alternative, but where there is one with its arity, that is taken.
func TestSplitArities(t *testing.T) {
	x := zoo(t)
	var l []api.Alternative
	for arity := range api.MaxArity + 1 {
		l = append(l, api.Alternative{Leaf: functionLeaf(int64(arity))})
	}
	for arity := range api.MaxArity + 1 {
		v := label(fun(arity), "A")
		expectSplit(t, arity, x, l, v, arity)
		expectSplit(t, arity, x, l[:max(1, arity)], v, 0)
		expectSplit(t, arity, x, append([]api.Alternative{{Leaf: one}, {Leaf: functionLeaf(int64(arity)), Subgoals: free(1)}}, l...), v, arity+2)
	}
}

// P13.3: Forms and Keys of other kinds do not matter.
func TestSplitIgnored(t *testing.T) {
	x := zoo(t)
	forms := []api.Form{failing(), form(9), failing(-1)}
	for _, alt := range []api.Alternative{{Leaf: leafOf(api.VTuple), Subgoals: free(1)}, {Leaf: leafOf(api.VCons), Subgoals: free(2)}, {Leaf: leafOf(api.VMap), Keys: keys("a"), Subgoals: free(1)}, {Leaf: one}, {Leaf: empty}} {
		members := slices.Repeat([]api.Value{empty}, len(alt.Subgoals))
		v := mustMake(t, alt, members...)
		alt.Forms, alt.Keys = forms, keys("a", "a", "B", "c")
		expectSplit(t, v, x, []api.Alternative{alt}, v, 0, members...)
	}
	expectSplit(t, "function", x, []api.Alternative{{Leaf: functionLeaf(0), Keys: keys("", "a"), Forms: forms[:1]}}, fun(0, fails()), 0)
}

// P13.3: the parts of values that are not valid, types that are not well-formed, and indices of no node.
func TestInvalidSplit(t *testing.T) {
	x := zoo(t)
	l := []api.Alternative{
		{Leaf: leafOf(api.VTuple), Subgoals: free(1)}, {Leaf: leafOf(api.VTuple), Subgoals: free(2)}, {Leaf: leafOf(api.VCons), Subgoals: free(2)}, {Leaf: leafOf(api.VMap), Keys: keys("a"), Subgoals: free(1)},
		{Leaf: functionLeaf(1), Forms: []api.Form{failing(0)}, Subgoals: free(1)}, {Leaf: functionLeaf(1), Forms: []api.Form{form(0, 1)}, Subgoals: free(2)},
	}
	for _, v := range samples.InvalidValues() {
		for _, w := range []api.Value{tuple(v), tuple(one, v), value.Cons(v, empty), value.Cons(one, v), dict("a", v), fun(1, fails(v)), fun(1, maps(v, one)), fun(1, maps(one, v))} {
			expectSplit(t, w, x, l, w, -1)
		}
	}
	for _, w := range []api.Value{tuple(one), tuple(one, a), value.List(one), dict("a", one), fun(1, fails(one)), fun(1, maps(one, a))} {
		if _, _, ok := goal.Split(x, l, w); !ok {
			t.Error(w)
		}
		for _, y := range samples.InvalidTypes() {
			expectSplit(t, w, y, l, w, -1)
		}
		for _, n := range only(-1, allNodes, least, greatest) {
			for _, g := range []api.Goal{in(n), both(nil, n), both(only(all, n), none)} {
				other := slices.Clone(l)
				for i, alt := range other {
					other[i].Subgoals = slices.Repeat([]api.Goal{g}, len(alt.Subgoals))
				}
				expectSplit(t, w, x, other, w, -1)
			}
		}
	}
}

// partsOf returns the Kids, Args and Results of v.
func partsOf(v api.Value) []api.Value {
	l := slices.Clone(v.Kids)
	for _, e := range v.Entries {
		l = append(l, e.Args...)
		if !e.Fails {
			l = append(l, e.Result)
		}
	}
	return l
}

// fitsByTrying tries all parts of v for all subgoals.
func fitsByTrying(v api.Value, x api.Type, alt api.Alternative) bool {
	for _, f := range alt.Forms {
		isOther := func(n int) bool { return n < 0 || n >= len(alt.Subgoals) }
		if v.Kind == api.VFun && (slices.ContainsFunc(f.Args, isOther) || !f.Fails && isOther(f.Result)) {
			return false
		}
	}
	lists := [][]api.Value{nil}
	for _, g := range alt.Subgoals {
		var next [][]api.Value
		for _, l := range lists {
			for _, part := range partsOf(v) {
				if lines.InGoal(part, x, g) {
					next = append(next, append(slices.Clone(l), part))
				}
			}
		}
		lists = next
	}
	return slices.ContainsFunc(lists, func(l []api.Value) bool { return isSplit(v, x, alt, l) })
}

// P13.3: random alternatives and values with small parts.
func TestRandomSplit(t *testing.T) {
	r := rand.New(rand.NewSource(5))
	x := zoo(t)
	some := func(n int) (l []api.Value) {
		for range n {
			l = append(l, []api.Value{one, ten, a, empty}[r.Intn(4)])
		}
		return l
	}
	goals := []api.Goal{in(), in(), in(digit), in(integer), both(nil, integer), in(atoms), both(nil, atoms), {Lists: true}}
	found := map[bool]map[int]int{true: {}, false: {}}
	for range 12000 {
		var l []api.Alternative
		for range 1 + r.Intn(2) {
			alt := randomAlternative(r)
			for i := range alt.Subgoals {
				alt.Subgoals[i] = goals[r.Intn(len(goals))]
			}
			if len(alt.Subgoals) < 4 {
				l = append(l, alt)
			}
		}
		for i := range l {
			v := randomValue(r, l[i], some)
			is := slices.ContainsFunc(l, func(alt api.Alternative) bool { return fitsByTrying(v, x, alt) })
			n, parts, ok := goal.Split(x, l, v)
			if ok != is || ok && !isSplit(v, x, l[n], parts) || !ok && (n != 0 || parts != nil) {
				t.Fatalf("%+v of %+v: %d %+v %t", v, l, n, parts, ok)
			}
			found[ok][v.Kind]++
		}
	}
	for kind := api.VInt; kind <= api.VFun; kind++ {
		if found[true][kind] < 100 || found[false][kind] < 100 {
			t.Error(kind, found[true][kind], found[false][kind])
		}
	}
}

// randomValue returns a value that is mostly of the kind of the alternative.
func randomValue(r *rand.Rand, alt api.Alternative, some func(int) []api.Value) api.Value {
	switch k := alt.Leaf.Kind; {
	case r.Intn(9) == 0:
		return some(1)[0]
	case k == api.VTuple:
		return tuple(some(max(0, len(alt.Subgoals)+r.Intn(9)/8))...)
	case k == api.VCons:
		return value.List(some(1 + r.Intn(2))...)
	case k == api.VMap:
		all := keys("a", "c", "\"", "\"a")[:r.Intn(5)]
		v, _ := value.Map(all, some(len(all)))
		return v
	case k == api.VFun:
		arity := int(alt.Leaf.Int)
		var l []api.Entry
		for range r.Intn(max(5-arity, 2)) {
			if r.Intn(2) == 0 {
				l = append(l, fails(some(arity)...))
			} else {
				l = append(l, maps(some(arity+1)...))
			}
		}
		return fun(arity, l...)
	}
	return alt.Leaf
}
