package goal_test

import (
	"math/rand"
	"slices"
	"testing"

	"semtype/api"
	"semtype/goal"
	"semtype/lines"
	"semtype/samples"
	"semtype/value"
)

// Example 1.
func TestExamplePair(t *testing.T) {
	x := graph(kind(api.TTuple, 1, 1), from(least, greatest))
	mustBeWellFormed(t, x)
	l := goal.Alternatives(x, in(0))
	i := slices.IndexFunc(l, func(alt api.Alternative) bool { return alt.Leaf.Kind == api.VTuple && len(alt.Subgoals) == 2 })
	if i < 0 {
		t.Fatal(l)
	}
	if v := mustMake(t, l[i], one, value.Int(2)); !value.Equal(v, tuple(one, value.Int(2))) {
		t.Error(v)
	}
}

// Example 2, and P13.2 for goals without members: no value of a pool is a member of all subgoals of an alternative.
func TestGoalsWithoutMembers(t *testing.T) {
	x := zoo(t)
	m := samples.NewMembers(x, samples.Values())
	for _, g := range []api.Goal{
		in(none), both(nil, all), in(digit, atoms), both(only(pair), pairs), both(only(five), digit), both(only(variableA), labelled), in(loop), in(nested), in(tuples, notTuples), in(emptyMap, closed), both(only(digitToDigit), digitToDigit), both(only(four), functions),
		{Pos: only(integer), Lists: true}, {Neg: only(lists), Lists: true}, {Pos: only(pair, digits), Lists: true}, both(only(digits), nothing, list), both(only(nothing), nothing), both(only(digit, variableB), variableB), in(toDigit, digitToDigit),
	} {
		if l := m.Of(g); len(l) > 0 {
			t.Fatal(g, l)
		}
		for _, alt := range goal.Alternatives(x, g) {
			isEmpty := func(h api.Goal) bool { return len(m.Of(h)) == 0 }
			if !slices.ContainsFunc(alt.Subgoals, isEmpty) {
				t.Errorf("%v: %+v", g, alt)
			}
		}
	}
}

// P13.2: alternatives of goals whose members have one shape. Labels of the leaf are those that the goal asks for.
func TestShapesOfAlternatives(t *testing.T) {
	x := zoo(t)
	alt := func(leaf api.Value, subgoals ...api.Goal) api.Alternative {
		return api.Alternative{Leaf: leaf, Subgoals: subgoals}
	}
	at := func(alt api.Alternative, names ...string) api.Alternative { alt.Keys = keys(names...); return alt }
	with := func(alt api.Alternative, forms ...api.Form) api.Alternative { alt.Forms = forms; return alt }
	tail := func(g api.Goal) api.Goal { g.Lists = true; return g }
	for i, c := range []struct {
		g      api.Goal
		wanted []api.Alternative
	}{
		{in(digit), []api.Alternative{alt(value.Int(0))}},
		{both(only(digit, variableB), five, atoms), []api.Alternative{alt(label(value.Int(0), "B"))}},
		{in(five, integer, five), []api.Alternative{alt(value.Int(5))}},
		{in(textA), []api.Alternative{alt(value.String("a"))}},
		{in(texts), []api.Alternative{alt(value.String(""))}},
		{both(only(texts, variableA), variableB, textA), []api.Alternative{alt(label(value.String(""), "A"))}},
		{in(atomA), []api.Alternative{alt(a)}},
		{both(only(atoms), atomA), []api.Alternative{alt(b)}},
		{in(pids, variableA, variableB), []api.Alternative{alt(label(value.Pid(0), "A", "B"))}},
		{in(nothing), []api.Alternative{alt(empty)}},
		{in(digits), []api.Alternative{alt(empty), alt(leafOf(api.VCons), in(digit), tail(in(digits)))}},
		{api.Goal{Lists: true}, []api.Alternative{alt(empty), alt(leafOf(api.VCons), in(), tail(in()))}},
		{api.Goal{Pos: only(digits, either, variableA), Lists: true}, nil},
		{in(emptyTuple), []api.Alternative{alt(leafOf(api.VTuple))}},
		{both(only(emptyTuple), variableA), []api.Alternative{alt(leafOf(api.VTuple))}},
		{in(labelled, digit), []api.Alternative{alt(label(value.Int(0), "A"))}},
		{in(pair, variableA), []api.Alternative{alt(leafOf(api.VTuple, "A"), in(digit), in(atoms))}},
		{in(pair, labelled), []api.Alternative{alt(leafOf(api.VTuple, "A"), in(digit), in(atoms))}},
		{both(only(triple), single, pair), []api.Alternative{alt(leafOf(api.VTuple), in(variableA), in(digit), in(mixed))}},
		{in(loop), []api.Alternative{alt(leafOf(api.VTuple), in(loop))}},
		{in(cons, list), []api.Alternative{alt(leafOf(api.VCons), in(all, digit), tail(in(all, digits)))}},
		{in(emptyMap), []api.Alternative{alt(leafOf(api.VMap))}},
		{in(closed), []api.Alternative{at(alt(leafOf(api.VMap), in(digit)), "a")}},
		{in(records), []api.Alternative{alt(leafOf(api.VMap))}},
		{in(toDigit, toAtom, variableB), []api.Alternative{alt(functionLeaf(0, "B"))}},
		{in(pairToLoop), []api.Alternative{alt(functionLeaf(2))}},
		{in(functions), []api.Alternative{alt(functionLeaf(0)), alt(functionLeaf(1)), alt(functionLeaf(2)), alt(functionLeaf(3)), alt(functionLeaf(4))}},
		{both(only(tuples), emptyTuple, pair), []api.Alternative{alt(leafOf(api.VTuple), in()), alt(leafOf(api.VTuple), both(nil, digit), in()), alt(leafOf(api.VTuple), in(), both(nil, atoms)), alt(leafOf(api.VTuple), free(3)...), alt(leafOf(api.VTuple), free(4)...)}},
		{both(only(toDigit), toAtom), []api.Alternative{with(alt(functionLeaf(0), both(only(digit), atoms)), form(0))}},
		{both(only(digitToDigit, variableA), allToNone), []api.Alternative{with(alt(functionLeaf(1, "A"), both(only(all), digit)), failing(0)), with(alt(functionLeaf(1, "A"), both(only(all), digit), both(nil, none)), form(0, 1)), with(alt(functionLeaf(1, "A"), in(all), both(only(digit), none)), form(0, 1))}},
	} {
		if l := goal.Alternatives(x, c.g); sorted(l) != sorted(c.wanted) {
			t.Errorf("%d: %+v", i, l)
		}
	}
}

func sorted(l []api.Alternative) string {
	var all []string
	for _, alt := range l {
		all = append(all, show(alt))
	}
	slices.Sort(all)
	return show(all)
}

// check checks the alternatives of a goal: that all subgoals are normal, that members of them make members of the goal, and that members of the goal are split. It returns how many alternatives have a value for each subgoal, and the members.
func check(t *testing.T, r *rand.Rand, m *samples.Members, g api.Goal) (made int, members []api.Value) {
	t.Helper()
	l := goal.Alternatives(m.Type, g)
	for _, alt := range l {
		if slices.ContainsFunc(alt.Subgoals, func(h api.Goal) bool { return !isNormal(m.Type, h) }) {
			t.Fatalf("%+v: %+v", g, alt)
		}
		if checkMake(t, r, m, g, alt) {
			made++
		}
	}
	members = m.Of(g)
	for range min(len(members), 12) {
		v := members[r.Intn(len(members))]
		i, parts, ok := goal.Split(m.Type, l, v)
		if !ok || i < 0 || i >= len(l) || !isSplit(v, m.Type, l[i], parts) {
			t.Fatalf("%+v of %+v: %d %+v %t, of %+v", v, g, i, parts, ok, l)
		}
	}
	return made, members
}

// checkMake reports whether there are values for each subgoal.
func checkMake(t *testing.T, r *rand.Rand, m *samples.Members, g api.Goal, alt api.Alternative) bool {
	t.Helper()
	parts := make([]api.Value, len(alt.Subgoals))
	for range 3 {
		for i, h := range alt.Subgoals {
			own := m.Of(h)
			if len(own) == 0 {
				return false
			}
			parts[i] = own[r.Intn(len(own))]
		}
		v, code := goal.Make(alt, parts...)
		if code != api.OK || !lines.InGoal(v, m.Type, g) || !isDescribed(v, alt, parts) {
			t.Fatalf("%+v: %+v of %+v: %+v %v", g, alt, parts, v, code)
		}
	}
	return true
}

// P13.2: all goals of up to two nodes of the zoo, with Lists and without.
func TestSmallGoals(t *testing.T) {
	x := zoo(t)
	r := rand.New(rand.NewSource(2))
	m := samples.NewMembers(x, append(moreValues(), samples.Values()...))
	made, found := map[int]int{}, map[int]int{}
	for i := -1; i < 2*allNodes; i++ {
		for k := i; k < 2*allNodes; k++ {
			var g api.Goal
			for _, n := range only(i, k) {
				switch {
				case n >= allNodes:
					g.Neg = append(g.Neg, n-allNodes)
				case n >= 0:
					g.Pos = append(g.Pos, n)
				}
			}
			g.Lists = (i+k)%7 == 0
			number, members := check(t, r, m, g)
			made[min(number, 3)]++
			found[min(len(members), 3)]++
		}
	}
	for number := range 4 {
		if made[number] < 20 || found[number] < 20 {
			t.Error(number, made, found)
		}
	}
}

// moreValues has values that are in nodes of the zoo in which no other ones are.
func moreValues() []api.Value {
	labelled := label(value.Int(3), "A")
	pair := tuple(one, a)
	return []api.Value{
		one, value.Int(5), labelled, label(value.Int(5), "A", "B"), tuple(one), tuple(pair), pair, label(tuple(value.Int(5), b), "A"), tuple(ten, tuple()), tuple(labelled, one, a), tuple(labelled, one, label(pair, "B")), tuple(ten, a, ten, value.List(one)), tuple(one, pair, empty, value.List(a, b)),
		value.List(one, one), value.Cons(one, label(value.List(value.Int(5)), "B")), value.List(value.List(value.List())), value.List(one, a),
		dict("a", one), dict("a", value.Int(5)), dict("a", ten), dict("a", ten, "b", a), dict("a", a, "\"a", label(value.String("a"), "A")), dict("b", one, "\"b", value.String("")), dict("\"a", one, "\"b", value.Int(2)), dict("a", one, "\"", pair),
		fun(0, maps(one)), fun(0, maps(one), maps(value.Int(2))), fun(0, maps(a)), fun(0, maps(one), maps(a)), fun(0, fails()), label(fun(1, maps(one, one)), "A"), fun(1, maps(one, one), maps(a, empty)), fun(1, maps(one, a)), fun(1, fails(one)), fun(1, fails(ten)), fun(1, fails(ten), maps(a, a)),
		fun(2, maps(ten, a, tuple())), fun(2, fails(ten, b), maps(a, ten, one)), fun(2, fails(one, one)), fun(4, maps(one, a, one, label(one, "B"), fun(0))), fun(4, maps(one, a, one, label(one, "B"), one)), fun(4, fails(one, a, one, label(one, "B")), maps(a, a, a, a, a)),
	}
}

// P13.2: goals with several nodes in Pos and Neg, in any order, several times and in both.
func TestLargerGoals(t *testing.T) {
	x := zoo(t)
	r := rand.New(rand.NewSource(3))
	m := samples.NewMembers(x, append(moreValues(), samples.Values()...))
	groups := [][]int{
		only(all, either, labelled, notDigit, common, mixed, notTuples, variableA, variableB),
		only(emptyTuple, single, pair, pairs, triple, quadruple, tuples, either, mixed, variableA), only(pair, pairs, pair, mixed), only(digits, cons, list, lists, nothing, variableA),
		only(closed, open, optionalA, textKeys, records, emptyMap, variableB), only(toDigit, toAtom, functions, variableA), only(digitToDigit, atomToList, allToNone, either, variableA), only(pairToLoop, four, functions, either),
	}
	made, found := 0, 0
	for range 2500 {
		nodes := groups[r.Intn(len(groups))]
		g := api.Goal{Pos: someOf(r, nodes, 2), Neg: someOf(r, nodes, 5), Lists: r.Intn(9) == 0}
		number, members := check(t, r, m, g)
		if number > 0 {
			made++
		}
		if len(members) > 0 {
			found++
		}
	}
	if made < 800 || found < 800 {
		t.Error(made, found)
	}
}

// someOf returns at most so many of these, which may be none.
func someOf(r *rand.Rand, from []int, most int) (l []int) {
	for range min(r.Intn(most+1), len(from)*most) {
		l = append(l, from[r.Intn(len(from))])
	}
	return l
}

// P13.2: alternatives with the same subgoals, of which only some fail.
func TestSimilarAlternatives(t *testing.T) {
	x := graph(kind(api.TUnion, 8, 9),
		/* 1 */ kind(api.TAtoms), from(least, greatest), from(0, 9), kind(api.TAny),
		/* 5 */ kind(api.TNot, 10), kind(api.TNot, 11), kind(api.TNot, 14),
		/* 8 */ kind(api.TInter, 5, 6, 12), kind(api.TInter, 7, 13),
		/* 10 */ kind(api.TFun, 2, 4), kind(api.TFun, 1, 4), kind(api.TFun, 3, 1), kind(api.TFun, 1, 2), kind(api.TFun, 1, 3))
	mustBeWellFormed(t, x)
	m := samples.NewMembers(x, []api.Value{fun(1, fails(a), fails(ten)), fun(1, maps(a, ten)), fun(1, fails(a)), fun(1, fails(ten)), fun(1, maps(ten, ten)), a, ten, one})
	for _, g := range []api.Goal{in(0), in(8), in(9), both(nil, 5, 6)} {
		if made, members := check(t, rand.New(rand.NewSource(1)), m, g); made == 0 || len(members) == 0 {
			t.Error(g, made, members)
		}
	}
	if l := goal.Alternatives(x, in(0)); len(l) != 2 || show(l[0].Subgoals) != show(l[1].Subgoals) {
		t.Errorf("%+v", l)
	}
}

// P13.2: random types.
func TestRandomGoals(t *testing.T) {
	r := rand.New(rand.NewSource(4))
	all := samples.Values()
	made, found := 0, 0
	for range 700 {
		x := samples.RandomType(r, 2+r.Intn(9))
		nodes := make([]int, len(x.Nodes))
		for i := range nodes {
			nodes[i] = i
		}
		r.Shuffle(len(all), func(i, k int) { all[i], all[k] = all[k], all[i] })
		m := samples.NewMembers(x, all[:150])
		for range 4 {
			g := api.Goal{Pos: someOf(r, nodes, 3), Neg: someOf(r, nodes, 3), Lists: r.Intn(9) == 0}
			number, members := check(t, r, m, g)
			if number > 0 {
				made++
			}
			if len(members) > 0 {
				found++
			}
		}
	}
	if made < 600 || found < 600 {
		t.Error(made, found)
	}
}

// P13.2: no alternatives for types that are not well-formed, and for indices of no nodes.
func TestInvalidGoals(t *testing.T) {
	for _, x := range samples.InvalidTypes() {
		for n := range len(x.Nodes) + 1 {
			for _, g := range []api.Goal{{}, {Lists: true}, in(n), both(nil, n), both(only(n), n)} {
				if l := goal.Alternatives(x, g); len(l) > 0 {
					t.Error(x, g, l)
				}
			}
		}
	}
	x := zoo(t)
	for _, n := range only(-1, allNodes, allNodes+1, least, greatest) {
		for _, g := range []api.Goal{in(n), both(nil, n), in(all, n), in(n, all), both(nil, digit, n), both(only(none), n), both(only(n), all), {Pos: only(n), Lists: true}} {
			if l := goal.Alternatives(x, g); len(l) > 0 {
				t.Error(g, l)
			}
		}
	}
}
