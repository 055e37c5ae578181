package goal_test

import (
	"fmt"
	"math"
	"slices"
	"testing"

	"semtype/api"
	"semtype/goal"
	"semtype/lines"
	"semtype/samples"
	"semtype/typeexpr"
	"semtype/value"
)

const (
	least    = math.MinInt64
	greatest = math.MaxInt64
)

var (
	graph    = samples.Graph
	kind     = samples.Node
	text     = samples.Text
	from     = samples.Range
	record   = samples.Record
	field    = samples.Field
	optional = samples.Optional
	dict     = samples.Dict
	key      = samples.Key
	fun      = samples.Fun
	maps     = samples.Maps
	fails    = samples.Fails
	label    = value.WithLabels
	tuple    = value.Tuple

	one, ten, a, b, empty = value.Int(1), value.Int(10), value.Atom("a"), value.Atom("b"), value.Nil()
)

func show(x any) string { return fmt.Sprintf("%+v", x) }

func only(l ...int) []int { return l }

// both returns the goal with these indices in Pos and Neg.
func both(pos []int, neg ...int) api.Goal { return api.Goal{Pos: pos, Neg: neg} }

// in returns the goal with these indices in Pos.
func in(pos ...int) api.Goal { return api.Goal{Pos: pos} }

func keys(names ...string) (l []api.Key) {
	for _, name := range names {
		l = append(l, key(name))
	}
	return l
}

// leafOf returns a leaf of this kind for alternatives with parts.
func leafOf(kind int, labels ...string) api.Value { return api.Value{Kind: kind, Labels: labels} }

func functionLeaf(arity int64, labels ...string) api.Value {
	return api.Value{Kind: api.VFun, Int: arity, Labels: labels}
}

// free returns as many goals that all values are in.
func free(n int) []api.Goal { return make([]api.Goal, n) }

// failing returns the form of an entry that fails with these arguments.
func failing(args ...int) api.Form { return api.Form{Args: args, Fails: true} }

// form returns the form of an entry with these arguments and, at the end, the result.
func form(l ...int) api.Form {
	last := len(l) - 1
	return api.Form{Args: l[:last], Result: l[last]}
}

// mustBeWellFormed keeps a mistake in a test from passing as a type without members.
func mustBeWellFormed(t *testing.T, x api.Type) {
	t.Helper()
	if code := typeexpr.WellFormed(x); code != api.OK {
		t.Fatalf("%v: %+v", code, x)
	}
}

// The nodes of the zoo.
const (
	none = iota
	all
	digit
	five
	integer
	textA
	texts
	atomA
	atoms
	pids
	nothing
	variableA
	variableB
	emptyTuple
	single
	pair
	pairs
	triple
	quadruple
	tuples
	loop
	digits
	cons
	list
	nested
	lists
	closed
	open
	optionalA
	textKeys
	emptyMap
	records
	toDigit
	toAtom
	digitToDigit
	atomToList
	allToNone
	pairToLoop
	four
	functions
	either
	common
	notDigit
	notTuples
	labelled
	mixed
	allNodes
)

// zoo has nodes of each kind, some of them in cycles.
func zoo(t *testing.T) api.Type {
	t.Helper()
	x := api.Type{Nodes: []api.TypeNode{
		none: kind(api.TNone), all: kind(api.TAny), digit: from(0, 9), five: from(5, 5), integer: from(least, greatest), textA: text(api.TString, "a"), texts: kind(api.TStrings), atomA: text(api.TAtom, "a"), atoms: kind(api.TAtoms),
		pids: kind(api.TPid), nothing: kind(api.TNil), variableA: text(api.TVar, "A"), variableB: text(api.TVar, "B"),
		emptyTuple: kind(api.TTuple), single: kind(api.TTuple, either), pair: kind(api.TTuple, digit, atoms), pairs: kind(api.TTuple, integer, all), triple: kind(api.TTuple, variableA, digit, mixed), quadruple: kind(api.TTuple, all, mixed, all, list), tuples: kind(api.TTuples),
		loop: kind(api.TTuple, loop), digits: kind(api.TUnion, nothing, cons), cons: kind(api.TCons, digit, digits), list: kind(api.TCons, all, all), nested: kind(api.TCons, nested, nothing), lists: kind(api.TUnion, list, nothing),
		closed: record(none, none, field("a", digit)), open: record(all, all, field("a", integer)), optionalA: record(digit, texts, optional("a", atoms), optional("\"a", variableA)), textKeys: record(none, digit), emptyMap: record(none, none), records: record(all, all),
		toDigit: kind(api.TFun, digit), toAtom: kind(api.TFun, atoms), digitToDigit: kind(api.TFun, digit, digit), atomToList: kind(api.TFun, atoms, lists), allToNone: kind(api.TFun, all, none), pairToLoop: kind(api.TFun, integer, either, loop), four: kind(api.TFun, digit, atoms, all, variableB, functions), functions: kind(api.TFuns),
		either: kind(api.TUnion, digit, atomA, pair, closed, digitToDigit), common: kind(api.TInter, variableA, either), notDigit: kind(api.TNot, digit), notTuples: kind(api.TNot, tuples), labelled: kind(api.TUnion, variableA, variableB), mixed: kind(api.TInter, notDigit, either),
	}}
	mustBeWellFormed(t, x)
	return x
}

// isNormal reports whether the goal is in normal form, over nodes of x.
func isNormal(x api.Type, g api.Goal) bool {
	isOther := func(n int) bool { return n < 0 || n >= len(x.Nodes) }
	return show(lines.Normal(g)) == show(g) && !slices.ContainsFunc(g.Pos, isOther) && !slices.ContainsFunc(g.Neg, isOther)
}

// isDescribed reports whether v is the value that the words of P13.1 describe, for members that make one.
func isDescribed(v api.Value, a api.Alternative, members []api.Value) bool {
	if v.Kind != a.Leaf.Kind || !slices.Equal(v.Labels, a.Leaf.Labels) {
		return false
	}
	switch v.Kind {
	case api.VTuple, api.VCons:
		return slices.EqualFunc(v.Kids, members, value.Equal)
	case api.VMap:
		for i, k := range a.Keys {
			if n := slices.Index(v.Keys, k); n < 0 || !value.Equal(v.Kids[n], members[i]) {
				return false
			}
		}
		return len(v.Keys) == len(a.Keys)
	case api.VFun:
		return v.Int == a.Leaf.Int && areEntries(v.Entries, a.Forms, members)
	}
	return value.Equal(v, a.Leaf)
}

// areEntries reports whether each form has an entry and each entry a form.
func areEntries(l []api.Entry, forms []api.Form, members []api.Value) bool {
	for _, f := range forms {
		if !slices.ContainsFunc(l, func(e api.Entry) bool { return isEntry(e, f, members) }) {
			return false
		}
	}
	for _, e := range l {
		if !slices.ContainsFunc(forms, func(f api.Form) bool { return isEntry(e, f, members) }) {
			return false
		}
	}
	return true
}

// isEntry reports whether these members make this entry of the form.
func isEntry(e api.Entry, f api.Form, members []api.Value) bool {
	if e.Fails != f.Fails || len(e.Args) != len(f.Args) {
		return false
	}
	for i, n := range f.Args {
		if !value.Equal(e.Args[i], members[n]) {
			return false
		}
	}
	return e.Fails || value.Equal(e.Result, members[f.Result])
}

// isSplit reports whether the parts are those of v for a, by the words of P13.3.
func isSplit(v api.Value, x api.Type, a api.Alternative, parts []api.Value) bool {
	if v.Kind != a.Leaf.Kind || len(parts) != len(a.Subgoals) {
		return false
	}
	for i, g := range a.Subgoals {
		if !lines.InGoal(parts[i], x, g) {
			return false
		}
	}
	switch v.Kind {
	case api.VTuple, api.VCons:
		return slices.EqualFunc(parts, v.Kids, value.Equal)
	case api.VMap:
		isOther := func(part api.Value) bool {
			return !slices.ContainsFunc(v.Kids, func(w api.Value) bool { return value.Equal(w, part) })
		}
		return !slices.ContainsFunc(parts, isOther)
	case api.VFun:
		isOther := func(f api.Form) bool {
			return !slices.ContainsFunc(v.Entries, func(e api.Entry) bool { return isEntry(e, f, parts) })
		}
		return !slices.ContainsFunc(a.Forms, isOther)
	}
	return len(parts) == 0
}

// mustMake returns the value that the alternative describes.
func mustMake(t *testing.T, a api.Alternative, members ...api.Value) api.Value {
	t.Helper()
	v, code := goal.Make(a, members...)
	if code != api.OK {
		t.Fatalf("%v: %+v of %+v", code, a, members)
	}
	return v
}
