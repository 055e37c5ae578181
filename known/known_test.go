package known_test

import (
	"math/rand"
	"testing"

	"semtype/api"
	"semtype/known"
	"semtype/member"
	"semtype/samples"
	"semtype/typeexpr"
)

var (
	graph = samples.Graph
	kind  = samples.Node
	text  = samples.Text
	from  = samples.Range
)

const (
	none = iota
	all
	digit
	five
	bigger
	atoms
	yes
	no
	aString
	strings
	pid
	empty
	tuples
	funs
	variable
	bool2
	notDigit
	digits
	pair
	pairOfFive
	tagged
	triple
	digitToBool
	allToYes
	binary
	digitAndVariable
	maps
	notBool
	again
	other
	pidToo
	emptyToo
)

// zoo has nodes of each kind at the indices above.
func zoo() api.Type {
	return graph(
		kind(api.TNone), kind(api.TAny), from(0, 9), from(5, 5), from(10, 99), kind(api.TAtoms), text(api.TAtom, "yes"), text(api.TAtom, "no"),
		text(api.TString, "s"), kind(api.TStrings), kind(api.TPid), kind(api.TNil), kind(api.TTuples), kind(api.TFuns), text(api.TVar, "A"),
		kind(api.TUnion, yes, no), kind(api.TNot, digit), kind(api.TCons, digit, empty), kind(api.TTuple, digit, all), kind(api.TTuple, five, yes), kind(api.TTuple, no, all), kind(api.TTuple, all, all, all),
		kind(api.TFun, digit, bool2), kind(api.TFun, all, yes), kind(api.TFun, all, all, yes), kind(api.TInter, digit, variable), samples.Record(all, all), kind(api.TNot, bool2),
		kind(api.TCons, all, again), text(api.TVar, "B"), kind(api.TPid), kind(api.TNil),
	)
}

func TestKnown(t *testing.T) {
	x := zoo()
	if code := typeexpr.WellFormed(x); code != api.OK {
		t.Fatal(code)
	}
	for _, c := range []struct {
		a, b          int
		within, apart bool
	}{
		{none, yes, true, true}, {yes, none, false, true}, {none, none, true, true}, {pid, pidToo, true, false}, {emptyToo, empty, true, false}, {maps, none, false, true}, {digit, all, true, false}, {all, digit, false, false}, {digit, digit, true, false}, {variable, variable, true, false},
		{five, digit, true, false}, {digit, five, false, false}, {digit, bigger, false, true}, {bigger, digit, false, true},
		{yes, atoms, true, false}, {atoms, yes, false, false}, {yes, no, false, true}, {aString, strings, true, false}, {strings, aString, false, false}, {yes, digit, false, true},
		{pid, empty, false, true}, {pid, pid, true, false}, {variable, digit, false, false}, {digit, variable, false, false}, {variable, other, false, false},
		{bool2, atoms, true, false}, {yes, bool2, true, false}, {atoms, bool2, false, false}, {bool2, digit, false, true}, {digit, bool2, false, true}, {bool2, yes, false, false},
		{notDigit, digit, false, true}, {five, notDigit, false, true}, {bigger, notDigit, true, false}, {notDigit, bigger, false, false}, {bool2, notDigit, true, false},
		{digits, empty, false, true}, {digits, again, false, true}, {again, again, true, false},
		{pairOfFive, pair, true, false}, {pair, pairOfFive, false, false}, {pair, tagged, false, true}, {pair, triple, false, true}, {triple, tuples, true, false}, {tuples, triple, false, false},
		{allToYes, digitToBool, true, false}, {digitToBool, allToYes, false, false}, {allToYes, binary, false, true}, {binary, funs, true, false}, {funs, binary, false, false}, {funs, tuples, false, true},
		{digitAndVariable, digit, true, false}, {digitAndVariable, variable, true, false}, {digit, digitAndVariable, false, false}, {five, digitAndVariable, false, false}, {digitAndVariable, yes, false, true}, {yes, digitAndVariable, false, true}, {digitAndVariable, notBool, true, false}, {notBool, digitAndVariable, false, false},
		{maps, maps, true, false}, {maps, digit, false, true}, {notBool, yes, false, true}, {notBool, atoms, false, false}, {notBool, notDigit, false, false},
	} {
		if known.Within(x.Nodes, c.a, c.b) != c.within || known.Apart(x.Nodes, c.a, c.b) != c.apart {
			t.Errorf("%+v and %+v: %t %t", x.Nodes[c.a], x.Nodes[c.b], !c.within, !c.apart)
		}
	}
}

// check finds values that are in a and b otherwise than is known, and returns how much of both is known.
func check(t *testing.T, x api.Type, size int) (within, apart int) {
	t.Helper()
	values := samples.Values()
	for a := range size {
		for b := range size {
			isWithin, areApart := known.Within(x.Nodes, a, b), known.Apart(x.Nodes, a, b)
			if isWithin {
				within++
			}
			if areApart {
				apart++
			}
			for i := 0; i < len(values) && (isWithin || areApart); i++ {
				inA, inB := member.MemberOf(values[i], x, a), member.MemberOf(values[i], x, b)
				if isWithin && inA && !inB || areApart && inA && inB {
					t.Fatal(values[i], a, b, x)
				}
			}
		}
	}
	return within, apart
}

func TestRandomTypes(t *testing.T) {
	r := rand.New(rand.NewSource(1))
	within, apart := check(t, zoo(), len(zoo().Nodes))
	for range 60 {
		size := 2 + r.Intn(7)
		w, a := check(t, samples.RandomType(r, size), size)
		within, apart = within+w, apart+a
	}
	if within < 300 || apart < 600 {
		t.Error(within, apart)
	}
}

// A look ends soon, whatever there is to see, and does not end in what is not so.
func TestLargeTypes(t *testing.T) {
	const number = 1 << 12
	x := graph(kind(api.TUnion), kind(api.TInter), kind(api.TCons, 4, 3), kind(api.TCons, 4, 2), kind(api.TAny))
	for range number {
		n := len(x.Nodes)
		x.Nodes = append(x.Nodes, kind(api.TAny), kind(api.TTuple, n))
		x.Nodes[0].Kids, x.Nodes[1].Kids = append(x.Nodes[0].Kids, n+1), append(x.Nodes[1].Kids, n+1)
	}
	if code := typeexpr.WellFormed(x); code != api.OK {
		t.Fatal(code)
	}
	for range number {
		for a := range 4 {
			for b := range 4 {
				isWithin, areApart := a == b || a == 1 && b == 0, min(a, b) == 1 && max(a, b) > 1
				if known.Within(x.Nodes, a, b) != isWithin || known.Apart(x.Nodes, a, b) != areApart {
					t.Fatal(a, b)
				}
			}
		}
	}
}
