package witness_test

import (
	"testing"

	"semtype/api"
	"semtype/samples"
	"semtype/value"
	"semtype/witness"
)

// The chapter's example.
func TestExample(t *testing.T) {
	x := graph(kind(api.TTuple, 1, 2), from(least, greatest), kind(api.TUnion, 3, 4), kind(api.TNil), kind(api.TCons, 5, 2), kind(api.TAtoms))
	mustBeWellFormed(t, x)
	v, code := witness.Member(x)
	if code != api.OK || v.Kind != api.VTuple || value.Height(v) != 2 || !isWitness(v, x, in(0)) {
		t.Error(code, v)
	}
	if expectValue(t, "the second part", x, in(2), value.Nil()); !value.Equal(value.Unlabel(v.Kids[1]), value.Nil()) {
		t.Error(v)
	}
}

type heightCase struct {
	g      api.Goal
	height int
}

func expectAll(t *testing.T, l []heightCase) {
	t.Helper()
	x := zoo(t)
	for i, c := range l {
		expect(t, i, x, c.g, c.height)
	}
}

func TestKindsWithoutParts(t *testing.T) {
	expectAll(t, []heightCase{
		{in(), 1}, {lists(in()), 1}, {in(all), 1}, {in(none), 0}, {both(nil, all), 0}, {both(nil, none), 1}, {in(all, none), 0}, {both(only(all), none), 1},
		{in(digit), 1}, {in(integer), 1}, {in(textA), 1}, {in(texts), 1}, {in(atomA), 1}, {in(atoms), 1}, {in(pids), 1}, {in(nothing), 1}, {in(variableA), 1}, {in(tuples), 1}, {in(functions), 1},
		{in(digit, high), 1}, {both(only(digit, high), five), 1}, {both(only(five), high), 1}, {both(only(high), digit), 1}, {both(only(integer), digit, high, five), 1}, {both(only(five), digit), 0}, {both(only(texts), textA), 1}, {both(only(textA), texts), 0}, {both(only(atoms), atomA), 1}, {both(only(atomA), atoms), 0}, {both(only(pids), pids), 0}, {both(only(nothing), anyList), 0},
		{in(digit, atoms), 0}, {in(clash), 0}, {both(nil, clash), 1}, {both(only(digit), digit), 0}, {both(only(notDigit), digit), 1}, {in(digit, notDigit), 0}, {both(nil, digit, notDigit), 0}, {both(nil, integer, texts, atoms, pids, anyList, tuples, records), 1}, {both(nil, integer, texts, atoms, pids, anyList, tuples, records, functions), 0},
	})
}

func TestTuples(t *testing.T) {
	expectAll(t, []heightCase{
		{in(unit), 1}, {in(pair), 2}, {in(nest), 3}, {in(tower), 4}, {in(deep), 5}, {in(tuples), 1}, {both(only(tuples), unit), 2}, {both(only(tuples), unit, pair), 2}, {in(tuples, nest), 3}, {in(nest, tower), 0}, {both(only(nest), tuples), 0}, {both(only(nest), nest), 0}, {both(only(pair, nest), pair), 0},
		{in(hollow), 0}, {both(nil, hollow), 1}, {both(only(pair), hollow), 2}, {in(loop), 0}, {both(only(tuples), loop), 1}, {both(only(deep), loop, hollow), 5},
		{in(either), 1}, {in(common), 4}, {both(only(either), functions), 2}, {both(only(either), functions, records), 3}, {both(only(either), functions, records, nest), 3}, {both(only(either), functions, records, nest, conses), 4}, {both(only(either), functions, records, conses, nest, tower), 5}, {both(only(either), functions, records, conses, tuples), 0}, {in(notNest, either, tuples), 4},
		{in(tree), 1}, {in(branch), 2}, {both(only(tree), nothing), 2}, {both(only(tree), nothing, branch), 0}, {both(only(branch), bareTuple), 2}, {in(branch, bareTuple), 2},
	})
}

func TestLists(t *testing.T) {
	expectAll(t, []heightCase{
		{lists(in(all)), 1}, {lists(in(digit)), 0}, {lists(in(digits)), 1}, {lists(in(cons)), 2}, {lists(both(nil, nothing)), 2}, {lists(both(nil, conses)), 1}, {lists(both(nil, anyList)), 0}, {lists(both(nil, digits)), 2}, {lists(in(either)), 3}, {lists(in(common)), 0}, {lists(in(variableA)), 1}, {lists(both(only(tree), nothing)), 0}, {lists(both(only(all), nothing, cons)), 2},
		{in(digits), 1}, {in(cons), 2}, {in(evenCons), 3}, {in(oddCons), 2}, {in(even), 1}, {both(only(even), nothing), 3}, {both(only(digits), nothing), 2}, {both(only(cons), digits), 0}, {both(only(cons), oddCons), 2}, {both(only(oddCons), cons), 0}, {in(oddCons, evenCons), 0}, {both(only(digits), even, oddCons), 2}, {both(only(conses), cons), 2}, {both(only(conses), conses), 0},
		{in(endless), 0}, {both(only(conses), endless), 2}, {both(only(endless), evenCons), 0}, {in(evenCons, endless), 0}, {in(steep), 6}, {both(only(steep), cons), 6}, {both(only(steep), steep), 0},
	})
}

func TestMaps(t *testing.T) {
	expectAll(t, []heightCase{
		{in(emptyMap), 1}, {in(closed), 2}, {in(open), 2}, {in(chest), 3}, {in(safe), 4}, {in(hollowMap), 0}, {in(optionalMap), 1}, {in(atomKeys), 1}, {in(textKeys), 1}, {in(ring), 0}, {in(records), 1},
		{both(only(records), emptyMap), 2}, {both(only(optionalMap), emptyMap), 2}, {both(only(optionalMap), emptyMap, closed), 0}, {both(only(atomKeys), emptyMap), 3}, {both(only(textKeys), emptyMap), 2}, {in(atomKeys, textKeys), 1}, {both(only(atomKeys, textKeys), emptyMap), 0}, {both(only(atomKeys, records), emptyMap, textKeys), 3},
		{both(only(chest), closed), 3}, {both(only(chest), atomKeys), 4}, {both(only(safe), open), 0}, {both(only(open), safe), 2}, {both(only(open), closed, optionalMap), 2}, {both(only(closed), open), 0}, {in(closed, open), 2}, {in(closed, chest), 0}, {in(closed, emptyMap), 0}, {both(only(closed), closed), 0},
		{both(only(records), hollowMap), 1}, {both(only(records), open, optionalMap), 2}, {both(only(records), emptyMap, atomKeys, textKeys), 2}, {both(only(closed), records), 0}, {both(only(records), records), 0}, {both(only(ring), closed), 0}, {both(only(closed), ring), 2}, {in(open, ring), 0},
	})
}

func TestFunctions(t *testing.T) {
	expectAll(t, []heightCase{
		{in(unary), 1}, {in(digitToDigit, digitToNest), 1}, {in(digitToNone), 1}, {in(allToLoop), 1}, {in(constant), 1}, {in(toNone), 1}, {in(binary), 1}, {in(unary, binary), 0}, {in(unary, constant), 0}, {in(functions, binary), 1},
		{both(only(functions), digitToDigit), 1}, {both(only(unary), functions), 0}, {both(only(unary), digitToDigit), 2}, {both(only(unary), loopToNone), 0}, {both(only(unary), allToLoop), 2}, {both(only(unary), loopToNone, allToLoop), 0}, {both(only(allToLoop), digitToDigit), 0}, {both(only(allToLoop), allToLoop), 0},
		{both(only(digitToDigit), digitToFive), 2}, {both(only(digitToFive), digitToDigit), 0}, {both(only(digitToDigit), digitToNone), 2}, {both(only(digitToNest), digitToNone), 4}, {both(only(digitToNest), digitToDigit), 4}, {both(only(digitToNest, digitToDigit), digitToNone), 0}, {both(only(digitToDigit), digitToFive, digitToNone), 2}, {both(only(digitToNone), digitToNest, digitToDigit), 0},
		{both(only(unary), nestToAll), 4}, {both(only(unary), towerToAll), 5}, {both(only(unary), towerToAll, digitToDigit), 5}, {both(only(unary), towerToAll, nestToAll, pairToPair, digitToDigit), 5}, {both(only(pairToPair), nestToAll), 4}, {both(only(nestToAll), pairToPair), 3}, {both(only(nestToAll), nestToAll), 0},
		{both(only(functions), unary, constant, binary), 1}, {both(only(constant), toNone), 2}, {both(only(toNone), constant), 0}, {both(only(constant), unary, binary), 1}, {both(only(constant), constant), 0}, {both(only(binary), binaryToNone), 2}, {both(only(binaryToNone), binary), 0}, {both(only(binary), binary), 0},
	})
}

func TestLabels(t *testing.T) {
	expectAll(t, []heightCase{
		{in(variableA, variableB), 1}, {both(only(variableA), variableB), 1}, {both(only(variableA), variableA), 0}, {both(nil, variableA, variableB), 1}, {in(variableA, nest), 3}, {both(only(nest), variableA), 3}, {in(variableA, clash), 0}, {in(variableB, loop), 0}, {in(variableA, variableB, steep), 6}, {lists(in(variableB)), 1}, {in(variableA, functions, unary), 1}, {in(variableB, open), 2},
		{in(labelled), 1}, {both(only(labelled), variableA), 1}, {both(only(labelled), variableA, variableB), 0}, {both(only(variableB), labelled), 0}, {both(only(labelled, either), functions, variableA), 2},
		{in(labelledTuple), 2}, {both(only(labelledTuple), bareTuple), 2}, {in(labelledTuple, bareTuple), 2}, {in(labelledTuple, pair), 2}, {both(only(labelledTuple), pair), 2}, {in(labelledList), 3}, {both(only(labelledList), labelled), 3}, {in(labelledList, variableB), 3}, {both(only(unary), labelledToAll), 3}, {both(only(variableA, unary), labelledToAll, variableB), 3},
	})
}

// Goals that have one member of least height, but for labels.
func TestSingleWitnesses(t *testing.T) {
	x := zoo(t)
	number, nine, a := value.Int(5), value.Int(9), value.Atom("a")
	two := value.Tuple(number, a)
	for i, c := range []struct {
		g      api.Goal
		wanted api.Value
	}{
		{in(five), number}, {in(atomA, variableA), a}, {in(textA), value.String("a")}, {both(only(anyList), conses), value.Nil()}, {both(only(digit, high), toEight), nine},
		{in(pair), two}, {in(nest), value.Tuple(two)}, {in(evenCons), value.List(number, number)}, {both(only(even), nothing), value.List(number, number)}, {lists(in(even)), value.Nil()},
		{in(emptyMap), samples.Dict()}, {in(closed), samples.Dict("a", number)}, {in(closed, open), samples.Dict("a", number)}, {both(only(optionalMap), emptyMap), samples.Dict("a", number)}, {in(chest), samples.Dict("a", two)},
		{in(unary), samples.Fun(1)}, {in(binary), samples.Fun(2)}, {both(only(constant), constantLow), samples.Fun(0, samples.Maps(nine))},
	} {
		expectValue(t, i, x, c.g, c.wanted)
	}
}

// Lists with at least n elements have the least height n + 1, and trees of at least a height have it: up to MaxHeight there is a witness.
func TestHeights(t *testing.T) {
	b := builder{graph(kind(api.TUnion, 1, 2), kind(api.TNil), kind(api.TCons, 3, 0), kind(api.TAny), kind(api.TUnion, 1, 5), kind(api.TTuple, 4, 4, 4, 4), text(api.TVar, "A"))}
	longer, higher := 0, 4
	for height := 1; height <= api.MaxHeight+3; height++ {
		mustBeWellFormed(t, b.Type)
		expect(t, "lists", b.Type, in(longer), height)
		expect(t, "lists that are labelled", b.Type, in(longer, 6), height)
		expect(t, "trees", b.Type, in(higher), height)
		longer, higher = b.add(api.TCons, 3, longer), b.add(api.TTuple, 4, higher, 4, higher)
	}
}

// start returns a type with the nodes none, all, the empty list, the empty map and the functions of one parameter, to which links add nodes.
func start() *builder {
	return &builder{graph(kind(api.TNone), kind(api.TAny), kind(api.TNil), record(0, 0), kind(api.TFun, 0, 1))}
}

func (b *builder) without(n, other int) int {
	return b.add(api.TInter, n, b.add(api.TNot, other))
}

// links add nodes whose least members are one higher than those of the node next.
var links = []func(b *builder, next int) int{
	func(b *builder, next int) int { return b.add(api.TTuple, 2, next) },
	func(b *builder, next int) int { return b.add(api.TCons, next, 2) },
	func(b *builder, next int) int { return b.addNode(record(0, 0, field("a", next), optional("b", next))) },
	func(b *builder, next int) int { return b.without(b.addNode(record(0, 0, optional("\"a", next))), 3) },
	func(b *builder, next int) int { return b.without(b.addNode(record(next, 0)), 3) },
	func(b *builder, next int) int { return b.without(b.addNode(record(0, next, optional("a", 0))), 3) },
	func(b *builder, next int) int { return b.without(4, b.add(api.TFun, next, 1)) },
	func(b *builder, next int) int { return b.without(b.add(api.TFun, next), b.add(api.TFun, 0)) },
	func(b *builder, next int) int {
		return b.add(api.TInter, b.addNode(text(api.TVar, "A")), b.add(api.TTuple, next))
	},
	func(b *builder, next int) int {
		return b.add(api.TUnion, b.add(api.TTuple, 0), b.add(api.TTuple, next))
	},
}

// Members of each kind with parts at each height, as far as witnesses go, and one height further.
func TestHeightsOfAllKinds(t *testing.T) {
	for i := range links {
		for step := range links {
			b, next := start(), 2
			for height := 1; height <= api.MaxHeight+1; height++ {
				mustBeWellFormed(t, b.Type)
				expect(t, only(i, step), b.Type, in(next), height)
				next = links[(i+step*height)%len(links)](b, next)
			}
		}
	}
}

// A part that was found for one use may be too high for another one, which must not count it as found.
func TestSharedParts(t *testing.T) {
	b := start()
	empty, heavy := b.addLoop(), b.add(api.TTuple, 2, 2, 2, 2)
	tuple := func(arity int, l ...int) int {
		return b.add(api.TTuple, append(l, only(2, 2, 2, 2)[:arity-len(l)]...)...)
	}
	part := b.add(api.TTuple, 2)
	for height := 2; height <= api.MaxHeight-2; height++ {
		for i, arities := range [][]int{{2, 3, 4}, {2, 4, 3}, {3, 2, 4}, {3, 4, 2}, {4, 2, 3}, {4, 3, 2}, {2, 2, 2}} {
			vain, higher, right := tuple(arities[0], part, empty), tuple(arities[1], b.add(api.TTuple, part)), tuple(arities[2], part, heavy)
			lower, same, other := b.add(api.TUnion, vain, higher, right), b.add(api.TUnion, right, higher, vain), b.add(api.TUnion, vain, higher)
			expect(t, i, b.Type, in(lower), height+1)
			expect(t, i, b.Type, in(same), height+1)
			expect(t, i, b.Type, in(other), height+2)
		}
		part = b.add(api.TTuple, part)
	}
	mustBeWellFormed(t, b.Type)
}
