package solve_test

import (
	"math"
	"testing"

	"semtype/api"
	"semtype/samples"
)

// P14.1: a type that is not well-formed has no members, whatever is asked.
func TestInvalidTypes(t *testing.T) {
	for i, x := range samples.InvalidTypes() {
		for _, g := range []api.Goal{in(), in(0), both(nil, 0), lists(in()), in(-1)} {
			expect(t, i, x, g, 0)
		}
	}
}

// P14.1: no value is in a goal with an index that is not that of a node.
func TestInvalidIndices(t *testing.T) {
	x := zoo(t)
	for _, n := range []int{-1, allNodes, allNodes + 1, math.MinInt, math.MaxInt} {
		for i, g := range []api.Goal{in(n), both(nil, n), in(all, n), in(n, all), both(only(all), n), both(only(n), none), both(only(digit), none, n), both(only(n), n), lists(in(n)), lists(both(nil, n))} {
			expect(t, i, x, g, 0)
		}
	}
	expect(t, "a valid index", x, in(allNodes-1), 2)
}
