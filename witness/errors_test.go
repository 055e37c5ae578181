package witness_test

import (
	"math"
	"testing"

	"semtype/api"
	"semtype/samples"
	"semtype/value"
	"semtype/witness"
)

// expectMember checks that Member returns what Least returns for the root alone.
func expectMember(t *testing.T, name any, x api.Type) {
	t.Helper()
	v, code := witness.Member(x)
	w, wanted := witness.Least(x, in(x.Root))
	if code != wanted || !value.Equal(v, w) {
		t.Errorf("%v: %v %+v instead of %v %+v", name, code, v, wanted, w)
	}
}

// P15.1: Member is Least of the Root alone in Pos.
func TestMember(t *testing.T) {
	x := zoo(t)
	for i, c := range []struct {
		root   int
		wanted api.Code
	}{
		{digit, api.OK}, {deep, api.OK}, {steep, api.OK}, {variableB, api.OK}, {functions, api.OK}, {none, api.ErrEmpty}, {loop, api.ErrEmpty}, {clash, api.ErrEmpty}, {allNodes, api.ErrInvalid}, {-1, api.ErrInvalid},
	} {
		x.Root = c.root
		v, code := witness.Member(x)
		if code != c.wanted || code == api.OK && !isWitness(v, x, in(c.root)) || code != api.OK && !value.Equal(v, api.Value{}) {
			t.Error(i, code, v)
		}
	}
	for n := range allNodes {
		x.Root = n
		expectMember(t, n, x)
	}
	for i, bad := range samples.InvalidTypes() {
		expectMember(t, i, bad)
		if _, code := witness.Member(bad); code != api.ErrInvalid {
			t.Error(i, code)
		}
	}
	x.Nodes = append(x.Nodes, kind(api.TTuple, steep))
	x.Root = allNodes
	expectMember(t, "too high", x)
	if _, code := witness.Member(x); code != api.ErrLimit {
		t.Error(code)
	}
}

// P15.1: ErrInvalid for types that are not well-formed, whatever is asked.
func TestInvalidTypes(t *testing.T) {
	for i, x := range samples.InvalidTypes() {
		for _, g := range []api.Goal{in(), in(0), both(nil, 0), both(only(0), 0), lists(in()), in(-1)} {
			expectCode(t, i, x, g, api.ErrInvalid)
		}
	}
}

// P15.1: ErrInvalid for an index that is not that of a node comes before ErrEmpty and ErrLimit.
func TestInvalidIndices(t *testing.T) {
	x := zoo(t)
	x.Nodes = append(x.Nodes, kind(api.TTuple, steep))
	tooHigh, number := allNodes, allNodes+1
	for _, n := range []int{-1, number, number + 1, math.MinInt, math.MaxInt} {
		for i, g := range []api.Goal{
			in(n), both(nil, n), in(all, n), in(n, all), both(only(all), n), both(only(n), all), both(only(digit), none, n), both(nil, n, none), both(only(n), n), lists(in(n)), lists(both(nil, n)),
			in(none, n), in(loop, n), both(only(digit), digit, n), both(only(n), n, all), in(tooHigh, n), both(only(tooHigh), n), lists(both(only(digit), n)),
		} {
			expectCode(t, i, x, g, api.ErrInvalid)
		}
	}
	expectCode(t, "valid indices", x, in(tooHigh), api.ErrLimit)
	expect(t, "valid indices", x, in(0, number-2), 0)
}

// P15.1: ErrEmpty for goals without members.
func TestEmpty(t *testing.T) {
	x := zoo(t)
	for i, g := range []api.Goal{
		in(none), both(nil, all), in(digit, atoms), in(clash), both(only(digit), digit), both(only(digit), integer), both(nil, all, digit), in(notDigit, digit), both(only(variableA), variableA), lists(in(digit)), lists(both(nil, anyList)),
		in(hollow), in(hollowMap), in(tuples, hollow), both(only(nest), tuples), both(only(optionalMap), emptyMap, closed), in(closed, chest), both(only(digitToFive), digitToDigit), both(only(digitToNone), digitToNest, digitToDigit), in(unary, binary),
		in(loop), in(ring), in(endless), in(oddCons, evenCons), both(only(unary), loopToNone), in(loop, variableA), both(only(steep), digits, steep), in(loop, ring, endless),
	} {
		expectCode(t, i, x, g, api.ErrEmpty)
	}
}

// P15.1: ErrLimit for goals whose least members are higher than MaxHeight, however much higher, and for these only.
func TestLimit(t *testing.T) {
	x := zoo(t)
	b := builder{x}
	high := steep
	for range 40 {
		high = b.add(api.TTuple, high, all)
		fails, returns := b.add(api.TFun, high, all), b.add(api.TFun, high)
		list, map1, toNone := b.add(api.TCons, digit, b.add(api.TCons, high, nothing)), b.addNode(record(none, none, field("a", high))), b.add(api.TFun, none)
		mustBeWellFormed(t, b.Type)
		for i, g := range []api.Goal{in(high), in(high, tuples), in(high, variableA), both(only(high), pair, cons), in(list), lists(in(list)), in(map1), both(only(unary), fails), both(only(returns), toNone)} {
			expectCode(t, i, b.Type, g, api.ErrLimit)
		}
		for i, g := range []api.Goal{both(only(high), high), in(high, digit), in(high, loop), both(only(map1), records), lists(in(high))} {
			expectCode(t, i, b.Type, g, api.ErrEmpty)
		}
		either := b.add(api.TUnion, high, steep)
		expect(t, "a lower one", b.Type, in(either), api.MaxHeight)
		expectCode(t, "no lower one", b.Type, both(only(either), conses), api.ErrLimit)
		expect(t, "the complement", b.Type, both(nil, high), 1)
	}
}
