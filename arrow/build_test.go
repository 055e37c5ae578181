package arrow_test

import (
	"fmt"
	"math"
	"math/rand"
	"slices"
	"testing"

	"semtype/api"
	"semtype/lines"
	"semtype/member"
	"semtype/samples"
	"semtype/typeexpr"
	"semtype/value"
)

const (
	least    = math.MinInt64
	greatest = math.MaxInt64
)

var (
	graph = samples.Graph
	kind  = samples.Node
	text  = samples.Text
	from  = samples.Range
	fun   = samples.Fun
	maps  = samples.Maps
	fails = samples.Fails
	label = value.WithLabels

	one, ten, a, b = value.Int(1), value.Int(10), value.Atom("a"), value.Atom("b")
)

func show(x any) string { return fmt.Sprintf("%+v", x) }

func only(l ...int) []int { return l }

// part returns the goal with these indices in Pos and Neg.
func part(pos []int, neg ...int) api.Goal { return api.Goal{Pos: pos, Neg: neg} }

// failing returns the form of entries that fail with these arguments.
func failing(args ...api.Goal) api.EntryForm { return api.EntryForm{Args: args, Fails: true} }

// form returns the form of entries with these arguments and, at the end, the result.
func form(l ...api.Goal) api.EntryForm {
	last := len(l) - 1
	return api.EntryForm{Args: l[:last], Result: l[last]}
}

// mustBeWellFormed keeps a mistake in a test from passing as a type without members.
func mustBeWellFormed(t *testing.T, x api.Type) {
	t.Helper()
	if code := typeexpr.WellFormed(x); code != api.OK {
		t.Fatalf("%v: %+v", code, x)
	}
}

// The nodes of the zoo. The names of functions say what their parameters and the last Kid are.
const (
	none = iota
	all
	digit
	five
	integer
	atom
	atomA
	variable
	either
	both
	notDigit
	toDigit
	toNone
	toAll
	toVariable
	digitToDigit
	digitToAtom
	fiveToInteger
	integerToDigit
	atomToEither
	variableToDigit
	digitToVariable
	eitherToNone
	bothToAll
	noneToNone
	allToNone
	allToAll
	notDigitToAtom
	functionToFunction
	digitAtomToDigit
	atomDigitToAtom
	eitherBothToNone
	integerAllToEither
	noneAllToFive
	variableVariableToVariable
	threeToAtom
	threeToFive
	fourToDigit
	fourToNone
	allNodes

	firstFunction = toDigit
)

func zoo(t *testing.T) api.Type {
	t.Helper()
	x := api.Type{Nodes: []api.TypeNode{
		none: kind(api.TNone), all: kind(api.TAny), digit: from(0, 9), five: from(5, 5), integer: from(least, greatest), atom: kind(api.TAtoms), atomA: text(api.TAtom, "a"), variable: text(api.TVar, "A"),
		either: kind(api.TUnion, digit, atom), both: kind(api.TInter, integer, variable), notDigit: kind(api.TNot, digit),

		toDigit: kind(api.TFun, digit), toNone: kind(api.TFun, none), toAll: kind(api.TFun, all), toVariable: kind(api.TFun, variable),
		digitToDigit: kind(api.TFun, digit, digit), digitToAtom: kind(api.TFun, digit, atom), fiveToInteger: kind(api.TFun, five, integer), integerToDigit: kind(api.TFun, integer, digit), atomToEither: kind(api.TFun, atom, either),
		variableToDigit: kind(api.TFun, variable, digit), digitToVariable: kind(api.TFun, digit, variable), eitherToNone: kind(api.TFun, either, none), bothToAll: kind(api.TFun, both, all),
		noneToNone: kind(api.TFun, none, none), allToNone: kind(api.TFun, all, none), allToAll: kind(api.TFun, all, all), notDigitToAtom: kind(api.TFun, notDigit, atomA), functionToFunction: kind(api.TFun, digitToAtom, functionToFunction),
		digitAtomToDigit: kind(api.TFun, digit, atom, digit), atomDigitToAtom: kind(api.TFun, atom, digit, atom), eitherBothToNone: kind(api.TFun, either, both, none), integerAllToEither: kind(api.TFun, integer, all, either),
		noneAllToFive: kind(api.TFun, none, all, five), variableVariableToVariable: kind(api.TFun, variable, variable, variable),
		threeToAtom: kind(api.TFun, digit, either, notDigit, atom), threeToFive: kind(api.TFun, integer, atom, all, five),
		fourToDigit: kind(api.TFun, digit, digit, atom, variable, digit), fourToNone: kind(api.TFun, all, either, five, five, none),
	}}
	mustBeWellFormed(t, x)
	return x
}

// functions returns the function nodes of x with this many parameters.
func functions(x api.Type, arity int) (l []int) {
	for n, node := range x.Nodes {
		if node.Kind == api.TFun && len(node.Kids) == arity+1 {
			l = append(l, n)
		}
	}
	return l
}

// someValues has values in and not in the nodes of the zoo, with labels and without them.
func someValues() []api.Value {
	return []api.Value{one, value.Int(5), label(value.Int(5), "A"), ten, label(ten, "A", "B"), a, b, label(a, "A"), value.Nil(), fun(1, maps(one, a)), fun(1, fails(one))}
}

// entries returns all entries of the arity over some values if they are few, and random ones otherwise.
func entries(arity int) (l []api.Entry) {
	r := rand.New(rand.NewSource(int64(arity)))
	values := someValues()
	if arity > 2 {
		values = values[1:8]
	}
	lists := [][]api.Value{nil}
	for range arity {
		var next [][]api.Value
		for _, list := range lists {
			for _, v := range values {
				next = append(next, append(slices.Clone(list), v))
			}
		}
		r.Shuffle(len(next), func(i, k int) { next[i], next[k] = next[k], next[i] })
		lists = next[:min(len(next), 300)]
	}
	for _, args := range lists {
		l = append(l, fails(args...))
		for _, v := range values {
			l = append(l, maps(append(slices.Clone(args), v)...))
		}
	}
	return l
}

// isAllowed follows the words of P12.1 for valid entries and for function nodes.
func isAllowed(e api.Entry, x api.Type, pos []int) bool {
	return !slices.ContainsFunc(pos, func(n int) bool {
		kids := x.Nodes[n].Kids
		if len(e.Args) != len(kids)-1 {
			return true
		}
		for i, arg := range e.Args {
			if !member.MemberOf(arg, x, kids[i]) {
				return false
			}
		}
		return e.Fails || !member.MemberOf(e.Result, x, kids[len(e.Args)])
	})
}

// isInForm follows the words of P12.3.
func isInForm(e api.Entry, x api.Type, f api.EntryForm) bool {
	if len(e.Args) != len(f.Args) || e.Fails != f.Fails {
		return false
	}
	for i, arg := range e.Args {
		if !lines.InGoal(arg, x, f.Args[i]) {
			return false
		}
	}
	return e.Fails || lines.InGoal(e.Result, x, f.Result)
}

// goalsOf returns all goals of the form.
func goalsOf(f api.EntryForm) []api.Goal { return append(slices.Clone(f.Args), f.Result) }

func someNodes(r *rand.Rand, from []int, most int) (l []int) {
	for range r.Intn(most + 1) {
		l = append(l, from[r.Intn(len(from))])
	}
	return l
}
