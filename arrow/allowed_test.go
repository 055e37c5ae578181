package arrow_test

import (
	"math/rand"
	"slices"
	"testing"

	"semtype/api"
	"semtype/arrow"
	"semtype/lines"
	"semtype/samples"
	"semtype/value"
)

// P12.1: for no, one and several nodes, arguments in and not in the parameters, and results in and not in the last Kid.
func TestAllowed(t *testing.T) {
	x := zoo(t)
	five5, labelled := value.Int(5), label(ten, "A")
	for i, c := range []struct {
		e   api.Entry
		pos []int
		is  bool
	}{
		{maps(one), nil, true},
		{fails(), nil, true},
		{fails(one, a, one, a), nil, true},
		{maps(one, one, one, one, one, one, one), nil, true},
		{fails(one, one, one, one, one, one), nil, true},

		{maps(one), only(toDigit), true},
		{maps(ten), only(toDigit), false},
		{fails(), only(toDigit), false},
		{fails(), only(toAll), false},
		{maps(a), only(toAll), true},
		{maps(a), only(toNone), false},
		{maps(one), only(toDigit, toAll), true},
		{maps(one), only(toDigit, toVariable), false},
		{maps(label(one, "A")), only(toDigit, toVariable, toDigit), true},

		{maps(one, one), only(digitToDigit), true},
		{maps(one, ten), only(digitToDigit), false},
		{maps(ten, ten), only(digitToDigit), true},
		{maps(ten, a), only(digitToDigit), true},
		{fails(ten), only(digitToDigit), true},
		{fails(one), only(digitToDigit), false},
		{maps(one, one), only(digitToDigit, digitToDigit), true},
		{maps(one, ten), only(digitToDigit, digitToDigit), false},
		{fails(ten), only(digitToDigit, digitToDigit), true},
		{maps(one, one), only(digitToDigit, digitToAtom), false},
		{maps(one, a), only(digitToDigit, digitToAtom), false},
		{maps(ten, a), only(digitToDigit, digitToAtom), true},
		{maps(one, one), only(digitToDigit, fiveToInteger), true},
		{maps(five5, one), only(digitToDigit, fiveToInteger), true},
		{maps(five5, ten), only(digitToDigit, fiveToInteger), false},
		{maps(five5, ten), only(fiveToInteger), true},
		{maps(one, ten), only(digitToAtom, atomToEither, fiveToInteger), false},
		{maps(a, one), only(digitToAtom, atomToEither, fiveToInteger), true},
		{maps(a, ten), only(digitToAtom, fiveToInteger, atomToEither), false},
		{fails(a), only(digitToAtom, fiveToInteger), true},
		{fails(a), only(digitToAtom, fiveToInteger, atomToEither), false},
		{fails(one), only(noneToNone), true},
		{maps(one, one), only(noneToNone), true},
		{fails(one), only(allToNone), false},
		{maps(one, one), only(allToNone), false},
		{maps(one, one), only(allToAll), true},
		{fails(one), only(allToAll), false},

		{maps(one, label(one, "A")), only(digitToVariable), true},
		{maps(one, label(one, "B")), only(digitToVariable), false},
		{fails(ten), only(variableToDigit), true},
		{fails(labelled), only(variableToDigit), false},
		{maps(labelled, one), only(variableToDigit, bothToAll), true},
		{maps(labelled, ten), only(variableToDigit, bothToAll), false},
		{maps(fun(1, maps(one, a)), a), only(functionToFunction), false},
		{maps(fun(1, maps(one, one)), a), only(functionToFunction), true},
		{maps(fun(1), fun(1, maps(fun(1), fun(1)))), only(functionToFunction), true},
		{maps(fun(1), fun(1, fails(fun(1)))), only(functionToFunction), false},

		{maps(one, a, one), only(digitAtomToDigit), true},
		{maps(one, a, ten), only(digitAtomToDigit), false},
		{maps(one, one, ten), only(digitAtomToDigit), true},
		{maps(a, a, ten), only(digitAtomToDigit), true},
		{fails(a, one), only(digitAtomToDigit), true},
		{fails(a, one), only(digitAtomToDigit, atomDigitToAtom), false},
		{maps(one, one, ten), only(digitAtomToDigit, atomDigitToAtom), true},
		{maps(one, one, ten), only(digitAtomToDigit, atomDigitToAtom, integerAllToEither), false},

		{maps(one, one, a, labelled, one), only(fourToDigit), true},
		{maps(one, one, a, labelled, ten), only(fourToDigit), false},
		{maps(one, one, a, ten, ten), only(fourToDigit), true},
		{fails(one, one, a, labelled), only(fourToDigit), false},
		{fails(one, one, one, labelled), only(fourToDigit, fourToNone), true},
		{fails(one, one, five5, label(five5, "A")), only(fourToDigit, fourToNone, fourToDigit), false},
	} {
		if arrow.Allowed(c.e, x, c.pos) != c.is {
			t.Error(i)
		}
	}
}

// P12.1: the result of an entry that fails does not matter.
func TestResultOfFailure(t *testing.T) {
	x := zoo(t)
	for _, result := range append(samples.InvalidValues(), one, a) {
		for _, c := range []struct {
			arg api.Value
			pos []int
		}{{ten, only(digitToDigit)}, {one, only(digitToDigit)}, {a, nil}, {one, only(allToAll)}} {
			e := api.Entry{Args: []api.Value{c.arg}, Fails: true, Result: result}
			if arrow.Allowed(e, x, c.pos) != isAllowed(e, x, c.pos) {
				t.Error(result, c)
			}
		}
	}
}

// P12.1: each list of up to two function nodes, with entries of its number of parameters.
func TestAllAllowed(t *testing.T) {
	x := zoo(t)
	for arity := range api.MaxArity + 1 {
		found := map[bool]int{}
		lists := lists(functions(x, arity))
		for i, e := range entries(arity) {
			for k, pos := range lists {
				if (i+k)%5 > 0 {
					continue
				}
				is := isAllowed(e, x, pos)
				if found[is]++; arrow.Allowed(e, x, pos) != is {
					t.Fatal(e, pos)
				}
			}
		}
		if found[true] < 10 || found[false] < 10 {
			t.Error(arity, found)
		}
	}
}

// lists returns all lists of up to two of these.
func lists(nodes []int) [][]int {
	l := [][]int{nil}
	for _, m := range nodes {
		l = append(l, only(m))
		for _, n := range nodes {
			l = append(l, only(m, n))
		}
	}
	return l
}

// P12.1: a function is a member of nodes with as many parameters exactly if all its entries are allowed.
func TestAllowedFunctions(t *testing.T) {
	x := zoo(t)
	r := rand.New(rand.NewSource(1))
	var all []api.Entry
	found := map[bool]int{}
	for round := range 6000 {
		arity := round / 100 % (api.MaxArity + 1)
		if round%100 == 0 {
			all = entries(arity)
		}
		var own []api.Entry
		for range r.Intn(4) {
			own = append(own, all[r.Intn(len(all))])
		}
		v, code := value.Function(arity, own...)
		if code != api.OK {
			t.Fatal(code)
		}
		pos := someNodes(r, functions(x, arity), 3)
		is := lines.InGoal(v, x, part(pos))
		if found[is]++; is == slices.ContainsFunc(v.Entries, func(e api.Entry) bool { return !arrow.Allowed(e, x, pos) }) {
			t.Fatal(v, pos)
		}
	}
	if found[true] < 1000 || found[false] < 1000 {
		t.Error(found)
	}
}

// P12.1: false for entries with fewer and more arguments than a node has parameters.
func TestAllowedArity(t *testing.T) {
	x := zoo(t)
	for n := firstFunction; n < allNodes; n++ {
		arity := len(x.Nodes[n].Kids) - 1
		for number := range api.MaxArity + 4 {
			args := slices.Repeat([]api.Value{value.Nil()}, number)
			for _, e := range []api.Entry{fails(args...), maps(append(args, one)...)} {
				if number != arity && (arrow.Allowed(e, x, only(n)) || arrow.Allowed(e, x, only(n, n))) {
					t.Error(number, x.Nodes[n])
				}
			}
		}
	}
	for _, pos := range [][]int{only(toAll, allToAll), only(noneToNone, noneAllToFive), only(digitAtomToDigit, threeToAtom), only(fourToDigit, digitToDigit)} {
		for number := range api.MaxArity + 2 {
			args := slices.Repeat([]api.Value{value.Nil()}, number)
			if e := maps(append(args, one)...); arrow.Allowed(e, x, pos) {
				t.Error(number, pos)
			}
		}
	}
}

// P12.1: false for arguments or results that are not valid, types that are not well-formed, and indices of no function node.
func TestInvalidAllowed(t *testing.T) {
	x := zoo(t)
	for _, v := range samples.InvalidValues() {
		for _, pos := range [][]int{nil, only(noneToNone), only(digitToDigit), only(allToAll), only(noneToNone, atomToEither)} {
			for _, e := range []api.Entry{maps(v, one), maps(ten, v), maps(v, v), fails(v)} {
				if arrow.Allowed(e, x, pos) {
					t.Error(e, pos)
				}
			}
		}
		if arrow.Allowed(maps(v), x, nil) || arrow.Allowed(maps(v), x, only(toAll)) || arrow.Allowed(maps(one, v, one), x, only(noneAllToFive)) || arrow.Allowed(fails(one, one, one, one, one, v), x, nil) {
			t.Error(v)
		}
	}
	for _, y := range samples.InvalidTypes() {
		for n := range len(y.Nodes) + 1 {
			if arrow.Allowed(maps(one), y, nil) || arrow.Allowed(fails(), y, nil) || arrow.Allowed(maps(one, one), y, only(n)) || arrow.Allowed(fails(one), y, only(n)) {
				t.Error(y)
			}
		}
	}
	for n := -2; n < firstFunction; n++ {
		for _, pos := range [][]int{only(n), only(digitToDigit, n), only(n, noneToNone), only(allNodes + n + 2), only(least), only(noneToNone, greatest)} {
			if arrow.Allowed(fails(ten), x, pos) || arrow.Allowed(maps(ten, one), x, pos) || arrow.Allowed(maps(one), x, pos) {
				t.Error(pos)
			}
		}
	}
}
