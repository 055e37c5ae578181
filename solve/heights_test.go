package solve_test

import (
	"testing"

	"semtype/api"
	"semtype/samples"
	"semtype/value"
)

// The chapter's example.
func TestExamples(t *testing.T) {
	atLeastTwo := graph(kind(api.TCons, 1, 2), kind(api.TAny), kind(api.TCons, 1, 3), kind(api.TUnion, 4, 5), kind(api.TNil), kind(api.TCons, 1, 3))
	loop := graph(kind(api.TTuple, 0))
	mustBeWellFormed(t, atLeastTwo)
	mustBeWellFormed(t, loop)
	expect(t, "lists with at least two elements", atLeastTwo, in(0), 3)
	expect(t, "X = {X}", loop, in(0), 0)
}

type heightCase struct {
	g      api.Goal
	wanted int
}

func expectAll(t *testing.T, l []heightCase) {
	t.Helper()
	x := zoo(t)
	for i, c := range l {
		expect(t, i, x, c.g, c.wanted)
		if c.wanted > 0 {
			leastMember(t, x, c.g)
		}
	}
}

func TestKindsWithoutParts(t *testing.T) {
	expectAll(t, []heightCase{
		{in(), 1}, {in(all), 1}, {in(none), 0}, {both(nil, all), 0}, {both(nil, none), 1}, {in(all, none), 0},
		{in(digit), 1}, {in(integer), 1}, {in(textA), 1}, {in(texts), 1}, {in(atomA), 1}, {in(atoms), 1}, {in(pids), 1}, {in(nothing), 1}, {in(variableA), 1},
		{in(digit, high), 1}, {both(only(digit, high), digit), 0}, {both(only(high), digit), 1}, {both(only(digit), integer), 0}, {both(only(integer), digit, high), 1}, {both(only(texts), textA), 1}, {both(only(textA), texts), 0}, {both(only(atoms), atomA), 1}, {both(only(atomA), atoms), 0}, {both(only(pids), pids), 0}, {both(only(nothing), anyList), 0},
		{in(digit, atoms), 0}, {in(clash), 0}, {both(nil, clash), 1}, {both(only(digit), digit), 0}, {both(only(notDigit), digit), 1}, {in(digit, notDigit), 0}, {both(nil, digit, notDigit), 0},
	})
}

func TestTuples(t *testing.T) {
	expectAll(t, []heightCase{
		{in(unit), 1}, {in(pair), 2}, {in(nest), 3}, {in(deep), 4}, {in(tuples), 1}, {both(only(tuples), unit), 2}, {both(only(tuples), pair), 1}, {in(nest, tuples), 3}, {in(nest, deep), 0}, {both(only(nest), tuples), 0},
		{in(hollow), 0}, {both(nil, hollow), 1}, {both(only(pair), hollow), 2}, {in(loop), 0}, {both(only(tuples), loop), 1}, {both(only(nest), loop), 3}, {both(only(nest), nest), 0}, {both(only(pair), nest, pair), 0},
		{in(either), 2}, {in(deepest), 3}, {in(common), 4}, {both(only(deepest), nest), 4}, {both(only(deepest), nest, deep), 0}, {both(only(deepest), tuples), 0}, {in(notNest, deep), 4}, {both(only(either), cons), 3}, {both(only(either), cons, nest, chest), 4},
		{in(tree), 1}, {in(branch), 2}, {in(tree, tuples), 2}, {both(only(tree), nothing), 2}, {both(only(tree), nothing, leaves), 3}, {both(only(branch), leaves), 3}, {both(only(branch), branch), 0}, {both(only(leaves), branch), 0}, {both(only(tree), branch), 1}, {both(only(tree), branch, nothing), 0},
	})
}

func TestLists(t *testing.T) {
	expectAll(t, []heightCase{
		{lists(in()), 1}, {lists(in(all)), 1}, {lists(in(digit)), 0}, {lists(in(digits)), 1}, {lists(in(cons)), 2}, {lists(both(nil, nothing)), 2}, {lists(both(nil, conses)), 1}, {lists(both(nil, anyList)), 0}, {lists(both(nil, digits)), 2}, {lists(in(either)), 2}, {lists(in(deepest)), 0}, {lists(in(variableA)), 1}, {lists(both(only(tree), nothing)), 0},
		{in(digits), 1}, {in(cons), 2}, {in(twoOrMore), 3}, {both(only(digits), nothing), 2}, {both(only(cons), digits), 0}, {both(only(digits), twoOrMore), 1}, {both(only(cons), twoOrMore), 2}, {both(only(twoOrMore), cons), 0}, {both(only(conses), cons), 2}, {both(only(conses), conses), 0},
		{in(endless), 0}, {both(only(conses), endless), 2}, {both(only(endless), twoOrMore), 0}, {in(twoOrMore, endless), 0},
		{in(even), 1}, {in(odd), 2}, {in(evenCons), 3}, {both(only(even), nothing), 3}, {in(even, odd), 0}, {in(even, cons), 3}, {in(odd, twoOrMore), 4}, {both(only(odd), even), 2}, {both(only(digits), even, odd), 0}, {both(only(anyList), even, odd), 0}, {both(only(anyList), odd), 1}, {both(only(anyList), even), 2}, {both(only(twoOrMore), even), 4}, {both(only(even), nothing, digits), 3},
	})
}

func TestMaps(t *testing.T) {
	expectAll(t, []heightCase{
		{in(emptyMap), 1}, {in(closed), 2}, {in(open), 2}, {in(chest), 3}, {in(hollowMap), 0}, {in(optionalA), 1}, {in(nests), 1}, {in(ring), 0}, {in(records), 1},
		{both(only(records), emptyMap), 2}, {both(only(optionalA), emptyMap), 2}, {both(only(nests), emptyMap), 4}, {both(only(nests), optionalA), 4}, {in(nests, optionalA), 1}, {both(only(nests, optionalA), emptyMap), 4}, {both(only(nests, optionalA), emptyMap, variableB), 4}, {both(only(nests, chest), emptyMap), 0}, {both(only(chest), closed), 3}, {both(only(closed), chest), 2}, {in(closed, chest), 0}, {in(closed, emptyMap), 0}, {in(chest, nests), 0},
		{both(only(closed), open), 0}, {both(only(open), closed), 2}, {both(only(open), closed, optionalA), 2}, {both(only(records), hollowMap), 1}, {both(only(records), open, optionalA), 2}, {both(only(closed), records), 0}, {both(only(records), records), 0}, {both(only(ring), closed), 0}, {both(only(closed), ring), 2}, {in(open, ring), 0},
	})
}

func TestFunctions(t *testing.T) {
	expectAll(t, []heightCase{
		{in(functions), 1}, {in(unary), 1}, {in(partial), 1}, {in(digitToDigit, digitToNest), 1}, {in(digitToNone), 1}, {in(allToLoop), 1}, {in(constant), 1}, {in(binary), 1}, {in(unary, binary), 0}, {in(unary, constant), 0},
		{both(only(functions), digitToDigit), 1}, {both(only(functions), unary, constant, binary), 1}, {both(only(unary), loopToNone), 0}, {both(only(loopToNone), digitToDigit), 2}, {both(only(unary), functions), 0}, {both(only(unary), digitToDigit), 2}, {both(only(unary), partial), 2},
		{both(only(partial), digitToDigit), 2}, {both(only(partial), digitToNest), 2}, {both(only(digitToDigit), digitToNone), 2}, {both(only(digitToNest), digitToNone), 4}, {both(only(digitToNest), digitToDigit), 4}, {both(only(digitToNone), digitToNest), 0}, {both(only(digitToNest), partial), 0}, {both(only(digitToNest, digitToDigit), digitToNone), 0},
		{both(only(unary), pairToDigit), 3}, {both(only(unary), nestToAll), 4}, {both(only(unary), deepToDeep), 5}, {both(only(unary), digitToDigit, pairToDigit), 3}, {both(only(unary), digitToDigit, deepToDeep, nestToAll), 5}, {both(only(pairToDigit), nestToAll), 4}, {both(only(nestToAll), nestToAll), 0}, {both(only(allToLoop), digitToDigit), 0}, {both(only(unary), allToLoop), 2},
		{both(only(functions), constant), 1}, {both(only(constant), constant), 0}, {both(only(binary), digitToDigit), 1}, {both(only(binary), binary), 0}, {both(only(constant), unary, binary, functions), 0},
	})
}

func TestLabels(t *testing.T) {
	expectAll(t, []heightCase{
		{in(variableA, variableB), 1}, {both(only(variableA), variableB), 1}, {both(only(variableA), variableA), 0}, {both(nil, variableA, variableB), 1}, {in(variableA, nest), 3}, {both(only(nest), variableA), 3}, {in(variableA, clash), 0}, {in(variableB, loop), 0},
		{in(labelled), 1}, {both(only(labelled), variableA), 1}, {both(only(labelled), variableA, variableB), 0}, {both(only(variableB), labelled), 0}, {in(mixed), 2}, {both(only(mixed), conses), 3}, {in(mixed, deep), 4}, {both(only(mixed), variableA, either), 0}, {lists(both(only(digits, variableA), nothing)), 2},
	})
}

// Lists with at least n elements have the least height n + 1.
func TestHeightsOfLists(t *testing.T) {
	x := graph(kind(api.TUnion, 1, 2), kind(api.TNil), kind(api.TCons, 3, 0), kind(api.TAny))
	longer := 0
	for n := range 40 {
		mustBeWellFormed(t, x)
		expect(t, n, x, in(longer), n+1)
		expect(t, n, x, both(only(0), longer), min(n, 1))
		x.Nodes = append(x.Nodes, kind(api.TCons, 3, longer))
		longer = len(x.Nodes) - 1
	}
}

// Trees of at least a height have members of many heights, those of exactly a height of one.
func TestHeightsOfTrees(t *testing.T) {
	x := graph(kind(api.TUnion, 1, 2), kind(api.TNil), kind(api.TTuple, 0, 0))
	add := func(kind int, kids ...int) int {
		x.Nodes = append(x.Nodes, samples.Node(kind, kids...))
		return len(x.Nodes) - 1
	}
	higher, lower := 0, 1 // trees of at least the height, and of at most
	for height := 1; height <= 7; height++ {
		exact := add(api.TInter, higher, lower)
		above := add(api.TUnion, add(api.TTuple, higher, 0), add(api.TTuple, 0, higher))
		mustBeWellFormed(t, x)
		expect(t, height, x, in(higher), height)
		expect(t, height, x, in(exact), height)
		expect(t, height, x, both(only(higher), exact), height+1)
		expect(t, height, x, in(exact, above), 0)
		expect(t, height, x, both(only(0), higher, exact, lower), 0)
		if v := leastMember(t, x, in(exact)); value.Height(v) != height {
			t.Error(height, v)
		}
		higher, lower = above, add(api.TUnion, 1, add(api.TTuple, lower, lower))
	}
}
