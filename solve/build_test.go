package solve_test

import (
	"fmt"
	"math"
	"testing"

	"semtype/api"
	"semtype/goal"
	"semtype/lines"
	"semtype/samples"
	"semtype/solve"
	"semtype/typeexpr"
	"semtype/value"
)

const (
	least    = math.MinInt64
	greatest = math.MaxInt64
)

var (
	graph    = samples.Graph
	kind     = samples.Node
	text     = samples.Text
	from     = samples.Range
	record   = samples.Record
	field    = samples.Field
	optional = samples.Optional
)

func show(x any) string { return fmt.Sprintf("%+v", x) }

func only(l ...int) []int { return l }

// in returns the goal with these indices in Pos.
func in(pos ...int) api.Goal { return api.Goal{Pos: pos} }

// both returns the goal with these indices in Pos and Neg.
func both(pos []int, neg ...int) api.Goal { return api.Goal{Pos: pos, Neg: neg} }

func lists(g api.Goal) api.Goal {
	g.Lists = true
	return g
}

// mustBeWellFormed keeps a mistake in a test from passing as a type without members.
func mustBeWellFormed(t *testing.T, x api.Type) {
	t.Helper()
	if code := typeexpr.WellFormed(x); code != api.OK {
		t.Fatalf("%v: %+v", code, x)
	}
}

// heightOf returns what LeastHeight says of the goal, and checks that Inhabited says the same.
func heightOf(t *testing.T, x api.Type, g api.Goal) int {
	t.Helper()
	height := solve.LeastHeight(x, g)
	if height < 0 || solve.Inhabited(x, g) != (height != 0) {
		t.Fatalf("%d %t: %+v in %+v", height, solve.Inhabited(x, g), g, x)
	}
	return height
}

func expect(t *testing.T, name any, x api.Type, g api.Goal, wanted int) {
	t.Helper()
	if height := heightOf(t, x, g); height != wanted {
		t.Errorf("%v: %d instead of %d for %+v", name, height, wanted, g)
	}
}

// leastMember returns a member of the goal of its least height, which shows that this height is not too small. It is made of such members of subgoals that have a smaller height.
func leastMember(t *testing.T, x api.Type, g api.Goal) api.Value {
	t.Helper()
	height := solve.LeastHeight(x, g)
	for _, a := range goal.Alternatives(x, g) {
		parts, lower := []api.Value{}, true
		for _, sub := range a.Subgoals {
			if h := solve.LeastHeight(x, sub); h == 0 || h >= height {
				lower = false
				break
			}
		}
		for i := 0; lower && i < len(a.Subgoals); i++ {
			parts = append(parts, leastMember(t, x, a.Subgoals[i]))
		}
		if v, code := goal.Make(a, parts...); lower && code == api.OK {
			if value.Height(v) != height || !lines.InGoal(v, x, g) {
				t.Fatalf("%+v is no member of height %d of %+v in %+v", v, height, g, x)
			}
			return v
		}
	}
	t.Fatalf("nothing of height %d in %+v of %+v", height, g, x)
	return api.Value{}
}

// The nodes of the zoo.
const (
	none = iota
	all
	digit
	high
	integer
	textA
	texts
	atomA
	atoms
	pids
	nothing
	variableA
	variableB
	unit
	pair
	nest
	deep
	hollow
	tuples
	loop
	cons
	digits
	twoOrMore
	endless
	conses
	anyList
	evenCons
	even
	odd
	tree
	branch
	leaves
	emptyMap
	closed
	open
	chest
	hollowMap
	optionalA
	nests
	ring
	records
	unary
	partial
	digitToDigit
	digitToNest
	digitToNone
	pairToDigit
	nestToAll
	deepToDeep
	allToLoop
	loopToNone
	constant
	binary
	functions
	either
	deepest
	common
	clash
	notDigit
	notNest
	labelled
	mixed
	allNodes
)

// zoo has nodes of each kind, some of them in cycles.
func zoo(t *testing.T) api.Type {
	t.Helper()
	x := api.Type{Nodes: []api.TypeNode{
		none: kind(api.TNone), all: kind(api.TAny), digit: from(0, 9), high: from(7, greatest), integer: from(least, greatest), textA: text(api.TString, "a"), texts: kind(api.TStrings), atomA: text(api.TAtom, "a"), atoms: kind(api.TAtoms),
		pids: kind(api.TPid), nothing: kind(api.TNil), variableA: text(api.TVar, "A"), variableB: text(api.TVar, "B"),
		unit: kind(api.TTuple), pair: kind(api.TTuple, digit, atoms), nest: kind(api.TTuple, pair), deep: kind(api.TTuple, unit, nest, all), hollow: kind(api.TTuple, digit, none), tuples: kind(api.TTuples), loop: kind(api.TTuple, loop),
		cons: kind(api.TCons, digit, digits), digits: kind(api.TUnion, nothing, cons), twoOrMore: kind(api.TCons, digit, cons), endless: kind(api.TCons, all, endless), conses: kind(api.TCons, all, all), anyList: kind(api.TUnion, conses, nothing),
		evenCons: kind(api.TCons, all, odd), even: kind(api.TUnion, nothing, evenCons), odd: kind(api.TCons, all, even), tree: kind(api.TUnion, nothing, branch), branch: kind(api.TTuple, tree, tree), leaves: kind(api.TTuple, nothing, nothing),
		emptyMap: record(none, none), closed: record(none, none, field("a", digit)), open: record(all, all, field("a", integer)), chest: record(none, none, field("a", pair), optional("b", deep)), hollowMap: record(all, all, field("a", none)),
		optionalA: record(digit, texts, optional("a", nest), optional("\"a", variableA)), nests: record(none, nest), ring: record(none, none, field("a", ring)), records: record(all, all),
		unary: kind(api.TFun, none, all), partial: kind(api.TFun, digit, all), digitToDigit: kind(api.TFun, digit, digit), digitToNest: kind(api.TFun, digit, nest), digitToNone: kind(api.TFun, digit, none), pairToDigit: kind(api.TFun, pair, digit), nestToAll: kind(api.TFun, nest, all),
		deepToDeep: kind(api.TFun, deep, deep), allToLoop: kind(api.TFun, all, loop), loopToNone: kind(api.TFun, loop, none), constant: kind(api.TFun, nest), binary: kind(api.TFun, digit, pair, atoms), functions: kind(api.TFuns),
		either: kind(api.TUnion, deep, nest, chest, cons, loop), deepest: kind(api.TUnion, deep, loop, nest), common: kind(api.TInter, deepest, notNest), clash: kind(api.TInter, digit, atomA), notDigit: kind(api.TNot, digit), notNest: kind(api.TNot, nest),
		labelled: kind(api.TUnion, variableA, variableB), mixed: kind(api.TInter, notDigit, either, labelled),
	}}
	mustBeWellFormed(t, x)
	return x
}
