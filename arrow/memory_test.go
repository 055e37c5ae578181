package arrow_test

import (
	"slices"
	"testing"

	"semtype/api"
	"semtype/arrow"
	"semtype/samples"
	"semtype/value"
)

func placesOfForms(forms []api.EntryForm) []any {
	all := samples.Places(forms)
	for _, f := range forms {
		all = append(all, samples.Places(f.Args)...)
		for _, g := range goalsOf(f) {
			all = append(all, samples.PlacesOfGoal(g)...)
		}
	}
	return all
}

func roomyType(x api.Type) api.Type {
	x.Nodes = samples.WithRoom(x.Nodes)
	for i := range x.Nodes {
		x.Nodes[i].Kids = samples.WithRoom(x.Nodes[i].Kids)
	}
	return x
}

// stateOfType shows the type and what is behind its lists.
func stateOfType(x api.Type) string {
	s := show(x.Nodes[:cap(x.Nodes)])
	for _, node := range x.Nodes {
		s += show(node.Kids[:cap(node.Kids)])
	}
	return s
}

// R2: neither a type nor a list of indices is changed or kept, and no two slices share memory.
func TestMemoryOfForms(t *testing.T) {
	x := roomyType(zoo(t))
	for _, c := range []struct {
		pos []int
		neg int
	}{
		{nil, toDigit}, {only(toVariable, toDigit, toVariable), toNone}, {nil, digitToAtom}, {only(variableToDigit, fiveToInteger, digitToVariable, fiveToInteger), digitToDigit}, {only(variableVariableToVariable), digitAtomToDigit}, {only(threeToFive), threeToAtom}, {only(fourToNone), fourToDigit},
	} {
		pos := samples.WithRoom(c.pos)
		state := func() string { return show(pos[:cap(pos)]) + stateOfType(x) }
		before := state()
		first, code := arrow.Forms(x, pos, c.neg)
		second, _ := arrow.Forms(x, pos, c.neg)
		result := append(placesOfForms(first), placesOfForms(second)...)
		if code != api.OK || len(result) < 2 || samples.Shared(append(samples.PlacesOfType(x), samples.Places(pos)...), result) {
			t.Error(c, "shares memory, or has no result")
		}
		if state() != before {
			t.Error(c, "an argument is changed")
		}
	}
}

// R2: entries and forms are not changed.
func TestMemoryOfEntries(t *testing.T) {
	x := roomyType(zoo(t))
	pos := samples.WithRoom(only(variableToDigit, digitToDigit, variableToDigit))
	args := samples.WithRoom([]api.Value{label(value.Int(3), "A", "B")})
	result := fun(1, maps(one, samples.Dict("a", one, "b", a)))
	for _, e := range []api.Entry{{Args: args, Fails: true}, {Args: args, Result: result}, {Args: args, Fails: true, Result: result}} {
		f := api.EntryForm{Args: samples.WithRoom([]api.Goal{part(samples.WithRoom(only(variable, digit, variable)), samples.WithRoom(only(five, five, atom))...)}), Fails: e.Fails}
		state := func() string {
			g := f.Args[0]
			return show(args[:cap(args)]) + show(e) + show(f.Args[:cap(f.Args)]) + show(g.Pos[:cap(g.Pos)]) + show(g.Neg[:cap(g.Neg)]) + show(pos[:cap(pos)]) + stateOfType(x)
		}
		before := state()
		if !arrow.InForm(e, x, f) || arrow.Allowed(e, x, pos) {
			t.Error(e)
		}
		if state() != before {
			t.Error(e, "an argument is changed")
		}
	}
}

// R2: the functions are neither changed nor kept.
func TestMemoryOfMerge(t *testing.T) {
	v := label(fun(1, maps(label(one, "A", "B"), value.List(a, b)), fails(samples.Dict("a", one))), "B")
	w := fun(1, maps(value.Tuple(one), fun(2, maps(one, a, label(b, "A")))), fails(samples.Dict("a", one)))
	v.Entries, w.Entries = samples.WithRoom(v.Entries), samples.WithRoom(w.Entries)
	for _, l := range [][]api.Value{{v}, {v, w}, {w, v, v}} {
		l = samples.WithRoom(l)
		state := func() string {
			return show(l[:cap(l)]) + show(v.Entries[:cap(v.Entries)]) + show(w.Entries[:cap(w.Entries)])
		}
		before := state()
		first, _ := arrow.Merge(l...)
		second, _ := arrow.Merge(l...)
		given := append(append(samples.Places(l), samples.PlacesOfValue(v)...), samples.PlacesOfValue(w)...)
		result := append(samples.PlacesOfValue(first), samples.PlacesOfValue(second)...)
		if len(result) < 10 || samples.Shared(given, result) {
			t.Error("shares memory, or has no result")
		}
		if state() != before {
			t.Error("an argument is changed")
		}
	}
}

// R3: nil and empty slices are the same.
func TestEmptySlices(t *testing.T) {
	x := zoo(t)
	for n := firstFunction; n < allNodes; n++ {
		forms, _ := arrow.Forms(x, nil, n)
		if other, code := arrow.Forms(x, []int{}, n); code != api.OK || show(other) != show(forms) {
			t.Error(n, other)
		}
	}
	for _, none := range [][]api.Value{nil, {}} {
		e := api.Entry{Args: none, Result: one}
		if !arrow.Allowed(e, x, nil) || !arrow.Allowed(e, x, []int{}) || !arrow.Allowed(e, x, only(toDigit)) || !arrow.InForm(e, x, api.EntryForm{}) || !arrow.InForm(e, x, api.EntryForm{Args: []api.Goal{}, Result: api.Goal{Pos: []int{}, Neg: []int{}}}) {
			t.Error(e)
		}
	}
	empty := api.Value{Kind: api.VFun, Kids: []api.Value{}, Keys: []api.Key{}, Entries: []api.Entry{{Args: []api.Value{}, Result: one}}, Labels: []string{}}
	if v, code := arrow.Merge(empty, fun(0, maps(one))); code != api.OK || !value.Equal(v, fun(0, maps(one))) {
		t.Error(v, code)
	}
}

// R5: the same arguments give the same forms.
func TestRepeated(t *testing.T) {
	x := zoo(t)
	for arity := range api.MaxArity + 1 {
		nodes := functions(x, arity)
		for _, n := range nodes {
			pos := slices.DeleteFunc(slices.Clone(nodes), func(m int) bool { return m == n })
			first, _ := arrow.Forms(x, pos, n)
			for range 5 {
				if forms, _ := arrow.Forms(x, pos, n); show(forms) != show(first) {
					t.Fatal(n)
				}
			}
		}
	}
}
