package witness_test

import (
	"fmt"
	"math"
	"slices"
	"testing"

	"semtype/api"
	"semtype/member"
	"semtype/samples"
	"semtype/solve"
	"semtype/typeexpr"
	"semtype/value"
	"semtype/witness"
)

const (
	least    = math.MinInt64
	greatest = math.MaxInt64
)

var (
	graph    = samples.Graph
	kind     = samples.Node
	text     = samples.Text
	from     = samples.Range
	record   = samples.Record
	field    = samples.Field
	optional = samples.Optional
)

func show(x any) string { return fmt.Sprintf("%+v", x) }

func only(l ...int) []int { return l }

// in returns the goal with these indices in Pos.
func in(pos ...int) api.Goal { return api.Goal{Pos: pos} }

// both returns the goal with these indices in Pos and Neg.
func both(pos []int, neg ...int) api.Goal { return api.Goal{Pos: pos, Neg: neg} }

func lists(g api.Goal) api.Goal {
	g.Lists = true
	return g
}

// mustBeWellFormed keeps a mistake in a test from passing as a type without members.
func mustBeWellFormed(t *testing.T, x api.Type) {
	t.Helper()
	if code := typeexpr.WellFormed(x); code != api.OK {
		t.Fatalf("%v: %+v", code, x)
	}
}

// isWitness reports, by packages member, solve and value, whether v is what P15.1 asks for.
func isWitness(v api.Value, x api.Type, g api.Goal) bool {
	isNone := func(n int) bool { return !member.MemberOf(v, x, n) }
	isMember := func(n int) bool { return member.MemberOf(v, x, n) }
	isList := v.Kind == api.VNil || v.Kind == api.VCons
	isInGoal := !slices.ContainsFunc(g.Pos, isNone) && !slices.ContainsFunc(g.Neg, isMember) && (isList || !g.Lists)
	return value.Validate(v) == api.OK && isInGoal && value.Height(v) == solve.LeastHeight(x, g)
}

// codeOf returns what Least has to say of a goal whose type and indices are valid.
func codeOf(height int) api.Code {
	switch {
	case height == 0:
		return api.ErrEmpty
	case height > api.MaxHeight:
		return api.ErrLimit
	}
	return api.OK
}

// leastOf returns what Least says of a goal whose type and indices are valid, and checks it.
func leastOf(t *testing.T, x api.Type, g api.Goal) (api.Value, api.Code) {
	t.Helper()
	v, code := witness.Least(x, g)
	if wanted := codeOf(solve.LeastHeight(x, g)); code != wanted {
		t.Fatalf("%v instead of %v for %+v in %+v", code, wanted, g, x)
	}
	if code == api.OK && !isWitness(v, x, g) {
		t.Fatalf("%+v is no witness of %+v in %+v", v, g, x)
	}
	if code != api.OK && !value.Equal(v, api.Value{}) {
		t.Fatalf("%v with %+v for %+v in %+v", code, v, g, x)
	}
	return v, code
}

// expect checks that the least members of the goal have this height, that there are none if it is 0, and that it is too great for a witness if it is above MaxHeight.
func expect(t *testing.T, name any, x api.Type, g api.Goal, height int) api.Value {
	t.Helper()
	v, code := leastOf(t, x, g)
	if wanted := codeOf(height); code != wanted || code == api.OK && value.Height(v) != height {
		t.Errorf("%v: %v %+v instead of the height %d for %+v", name, code, v, height, g)
	}
	return v
}

// expectCode checks that Least returns this error for the goal, with the zero value.
func expectCode(t *testing.T, name any, x api.Type, g api.Goal, wanted api.Code) {
	t.Helper()
	if v, code := witness.Least(x, g); code != wanted || !value.Equal(v, api.Value{}) {
		t.Errorf("%v: %v %+v instead of %v for %+v", name, code, v, wanted, g)
	}
}

// expectValue checks that Least returns this value, whatever its labels are.
func expectValue(t *testing.T, name any, x api.Type, g api.Goal, wanted api.Value) {
	t.Helper()
	if v, _ := leastOf(t, x, g); !value.Equal(value.Unlabel(v), wanted) {
		t.Errorf("%v: %+v instead of %+v for %+v", name, v, wanted, g)
	}
}

// builder adds nodes to a type.
type builder struct{ api.Type }

func (b *builder) add(kind int, kids ...int) int { return b.addNode(samples.Node(kind, kids...)) }

func (b *builder) addNode(node api.TypeNode) int {
	b.Nodes = append(b.Nodes, node)
	return len(b.Nodes) - 1
}

// The nodes of the zoo.
const (
	none = iota
	all
	digit
	high
	five
	toEight
	integer
	textA
	texts
	atomA
	atoms
	pids
	nothing
	variableA
	variableB
	unit
	pair
	nest
	tower
	deep
	steep
	hollow
	tuples
	loop
	cons
	digits
	evenCons
	endless
	conses
	anyList
	even
	oddCons
	tree
	branch
	emptyMap
	closed
	open
	chest
	safe
	hollowMap
	optionalMap
	atomKeys
	textKeys
	ring
	records
	unary
	digitToDigit
	digitToFive
	digitToNone
	digitToNest
	nestToAll
	towerToAll
	pairToPair
	labelledToAll
	loopToNone
	allToLoop
	constant
	constantLow
	toNone
	binary
	binaryToNone
	functions
	either
	notDigit
	notNest
	common
	clash
	labelled
	labelledTuple
	bareTuple
	labelledList
	allNodes
)

// zoo has nodes of each kind, some of them in cycles.
func zoo(t *testing.T) api.Type {
	t.Helper()
	x := api.Type{Nodes: []api.TypeNode{
		none: kind(api.TNone), all: kind(api.TAny), digit: from(0, 9), high: from(7, greatest), five: from(5, 5), toEight: from(0, 8), integer: from(least, greatest), textA: text(api.TString, "a"), texts: kind(api.TStrings), atomA: text(api.TAtom, "a"), atoms: kind(api.TAtoms),
		pids: kind(api.TPid), nothing: kind(api.TNil), variableA: text(api.TVar, "A"), variableB: text(api.TVar, "B"),
		unit: kind(api.TTuple), pair: kind(api.TTuple, five, atomA), nest: kind(api.TTuple, pair), tower: kind(api.TTuple, all, nest), deep: kind(api.TTuple, unit, tower, texts, digit), steep: kind(api.TCons, deep, digits), hollow: kind(api.TTuple, digit, none), tuples: kind(api.TTuples), loop: kind(api.TTuple, loop),
		cons: kind(api.TCons, digit, digits), digits: kind(api.TUnion, nothing, cons), evenCons: kind(api.TCons, five, oddCons), endless: kind(api.TCons, all, endless), conses: kind(api.TCons, all, all), anyList: kind(api.TUnion, conses, nothing), even: kind(api.TUnion, nothing, evenCons), oddCons: kind(api.TCons, five, even), tree: kind(api.TUnion, branch, nothing), branch: kind(api.TTuple, tree, tree),
		emptyMap: record(none, none), closed: record(none, none, field("a", five)), open: record(all, all, field("a", digit)), chest: record(none, none, field("a", pair), optional("b", nest)), safe: record(none, none, field("a", digit), field("b", chest), optional("\"c", none)),
		hollowMap: record(all, all, field("a", none)), optionalMap: record(none, none, optional("a", five), optional("\"b", loop)), atomKeys: record(pair, none), textKeys: record(none, digit), ring: record(none, none, field("a", ring)), records: record(all, all),
		unary: kind(api.TFun, none, all), digitToDigit: kind(api.TFun, digit, digit), digitToFive: kind(api.TFun, digit, five), digitToNone: kind(api.TFun, digit, none), digitToNest: kind(api.TFun, digit, nest), nestToAll: kind(api.TFun, nest, all), towerToAll: kind(api.TFun, tower, all), pairToPair: kind(api.TFun, pair, pair),
		labelledToAll: kind(api.TFun, labelledTuple, all), loopToNone: kind(api.TFun, loop, none), allToLoop: kind(api.TFun, all, loop), constant: kind(api.TFun, digit), constantLow: kind(api.TFun, toEight), toNone: kind(api.TFun, none), binary: kind(api.TFun, five, pair, atoms), binaryToNone: kind(api.TFun, digit, tuples, none), functions: kind(api.TFuns),
		either: kind(api.TUnion, loop, deep, tower, nest, closed, evenCons, digitToNone), notDigit: kind(api.TNot, digit), notNest: kind(api.TNot, nest), common: kind(api.TInter, either, notNest, tuples), clash: kind(api.TInter, digit, atomA),
		labelled: kind(api.TUnion, variableA, variableB), labelledTuple: kind(api.TTuple, variableA, labelled), bareTuple: kind(api.TTuple, all, variableB), labelledList: kind(api.TCons, variableB, cons),
	}}
	mustBeWellFormed(t, x)
	return x
}
