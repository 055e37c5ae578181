package arrow_test

import (
	"math/rand"
	"slices"
	"testing"

	"semtype/api"
	"semtype/arrow"
	"semtype/samples"
	"semtype/value"
)

// P12.3: as many arguments, each in its goal, the same Fails, and a result in its goal.
func TestInForm(t *testing.T) {
	x := zoo(t)
	free, digits, atoms, not5 := part(nil), part(only(digit)), part(only(atom)), part(only(digit), five)
	lists := api.Goal{Lists: true}
	five5, empty := value.Int(5), value.Nil()
	for i, c := range []struct {
		e  api.Entry
		f  api.EntryForm
		is bool
	}{
		{fails(), failing(), true},
		{maps(one), form(free), true},
		{fails(), form(free), false},
		{maps(one), failing(), false},
		{maps(one), form(digits), true},
		{maps(ten), form(digits), false},
		{maps(a), form(digits), false},

		{fails(one), failing(digits), true},
		{fails(ten), failing(digits), false},
		{fails(one), failing(), false},
		{fails(), failing(free), false},
		{fails(one, one), failing(digits), false},
		{fails(one), failing(digits, digits), false},
		{maps(one, a), failing(digits), false},
		{fails(one), form(digits, free), false},
		{maps(one, a), form(digits, atoms), true},
		{maps(a, one), form(digits, atoms), false},
		{maps(one, one), form(digits, atoms), false},
		{maps(a, a), form(digits, atoms), false},
		{maps(one), form(digits, free), false},
		{maps(one, a), form(free), false},
		{maps(one, a, a), form(free, free), false},

		{maps(one, one, a, empty, a), form(digits, not5, atoms, lists, free), true},
		{maps(one, five5, a, empty, a), form(digits, not5, atoms, lists, free), false},
		{maps(one, one, one, empty, a), form(digits, not5, atoms, lists, free), false},
		{maps(one, one, a, a, a), form(digits, not5, atoms, lists, free), false},
		{maps(a, a), form(free, lists), false},
		{maps(a, empty), form(free, lists), true},
		{maps(five5, one), form(not5, digits), false},
		{maps(one, five5), form(digits, not5), false},
		{maps(one, label(a, "A")), form(digits, part(only(variable, atomA), digit, five)), true},
		{maps(one, label(a, "B")), form(digits, part(only(variable, atomA), digit, five)), false},
		{maps(one, a), form(part(only(digit, digit, all), none, five, five), part(only(either, atom, either), digit)), true},
		{maps(five5, a), form(part(only(digit, digit, all), none, five, five), part(only(either, atom, either), digit)), false},
		{maps(one, one, one, one, one, one, a), form(digits, digits, digits, digits, digits, digits, atoms), true},
		{maps(one, one, one, one, one, a, a), form(digits, digits, digits, digits, digits, digits, atoms), false},
		{fails(one, one, one, one, one, one), failing(digits, digits, digits, digits, digits, digits), true},
	} {
		if arrow.InForm(c.e, x, c.f) != c.is {
			t.Error(i)
		}
	}
}

// P12.3: the result of an entry and of a form that fail do not matter.
func TestResultsOfFailures(t *testing.T) {
	x := zoo(t)
	for _, result := range append(samples.InvalidValues(), one) {
		for _, g := range []api.Goal{{}, part(only(none)), part(only(allNodes)), {Lists: true}} {
			e, f := api.Entry{Args: []api.Value{one}, Fails: true, Result: result}, api.EntryForm{Args: []api.Goal{part(only(digit))}, Fails: true, Result: g}
			if !arrow.InForm(e, x, f) {
				t.Error(result, g)
			}
			if e.Args[0] = a; arrow.InForm(e, x, f) {
				t.Error(result, g)
			}
		}
	}
}

// P12.3: values that are not valid, types that are not well-formed and indices of no nodes are in no goal. Where no goal is asked, the type does not matter.
func TestInvalidInForm(t *testing.T) {
	x := zoo(t)
	free := part(nil)
	for _, v := range samples.InvalidValues() {
		if arrow.InForm(maps(v), x, form(free)) || arrow.InForm(maps(v, one), x, form(free, free)) || arrow.InForm(maps(one, v), x, form(free, part(nil, none))) || arrow.InForm(fails(one, v), x, failing(free, free)) {
			t.Error(v)
		}
	}
	for _, y := range samples.InvalidTypes() {
		if arrow.InForm(maps(one), y, form(free)) || arrow.InForm(maps(one, one), y, form(free, part(only(0)))) || arrow.InForm(fails(one), y, failing(free)) {
			t.Error(y)
		}
		if !arrow.InForm(fails(), y, failing()) || arrow.InForm(fails(), y, failing(free)) {
			t.Error(y)
		}
	}
	for _, n := range only(-1, allNodes, least, greatest) {
		for _, g := range []api.Goal{part(only(n)), part(nil, n), part(only(all, n), none), part(only(all), none, n)} {
			if arrow.InForm(maps(one), x, form(g)) || arrow.InForm(maps(one, one), x, form(g, free)) || arrow.InForm(maps(one, one), x, form(free, g)) || arrow.InForm(fails(one, one), x, failing(free, g)) {
				t.Error(g)
			}
		}
	}
}

// P12.3: random entries and forms.
func TestRandomInForm(t *testing.T) {
	all, r := samples.Values(), rand.New(rand.NewSource(4))
	found := map[bool]int{}
	for range 4000 {
		x := samples.RandomType(r, 1+r.Intn(8))
		nodes := make([]int, len(x.Nodes))
		for i := range nodes {
			nodes[i] = i
		}
		e, f := api.Entry{Fails: r.Intn(2) == 0}, api.EntryForm{Fails: r.Intn(2) == 0}
		if r.Intn(4) > 0 {
			f.Fails = e.Fails
		}
		for range r.Intn(4) {
			e.Args = append(e.Args, all[r.Intn(len(all))])
		}
		for range max(0, len(e.Args)+r.Intn(3)/2*(r.Intn(3)-1)) {
			f.Args = append(f.Args, api.Goal{Pos: someNodes(r, nodes, 1), Neg: someNodes(r, nodes, 1), Lists: r.Intn(9) == 0})
		}
		if !e.Fails {
			e.Result = all[r.Intn(len(all))]
		}
		if !f.Fails {
			f.Result = api.Goal{Pos: someNodes(r, nodes, 1), Neg: someNodes(r, nodes, 1), Lists: r.Intn(9) == 0}
		}
		is := isInForm(e, x, f)
		if found[is]++; arrow.InForm(e, x, f) != is {
			t.Fatal(e, x, f)
		}
	}
	if found[true] < 200 || found[false] < 500 {
		t.Error(found)
	}
}

// P12.1, P12.3: an entry is in the form of a node's parameters exactly if the node does not allow it, whatever it allows.
func TestFormsOfOneNode(t *testing.T) {
	x := zoo(t)
	for n := firstFunction; n < allNodes; n++ {
		kids := x.Nodes[n].Kids
		last := len(kids) - 1
		var params []api.Goal
		for _, kid := range kids[:last] {
			params = append(params, part(only(kid)))
		}
		forms := []api.EntryForm{failing(params...), form(append(slices.Clone(params), part(nil, kids[last]))...)}
		all := entries(last)
		for _, e := range all[:min(len(all), 500)] {
			if isSome(e, x, forms) == arrow.Allowed(e, x, only(n)) {
				t.Fatal(n, e)
			}
		}
	}
}
