package lines_test

import (
	"testing"

	"semtype/api"
	"semtype/lines"
	"semtype/samples"
	"semtype/value"
)

// P9.1: the goal without nodes has all valid values, or all valid lists.
func TestGoalWithoutNodes(t *testing.T) {
	x := graph(kind(api.TNone))
	found := map[bool]int{}
	for _, v := range samples.Values() {
		if !lines.InGoal(v, x, api.Goal{}) {
			t.Error(v)
		}
		if is := lines.InGoal(v, x, api.Goal{Lists: true}); is != isList(v) {
			t.Error(v, is)
		}
		found[isList(v)]++
	}
	if found[true] < 10 || found[false] < 10 {
		t.Error(found)
	}
}

// P9.1: each node of Pos, no node of Neg, and lists only if Lists.
func TestInGoal(t *testing.T) {
	x := graph(kind(api.TUnion, 1, 2), from(0, 9), kind(api.TNil), kind(api.TAny), text(api.TVar, "A"), kind(api.TCons, 3, 3))
	mustBeWellFormed(t, x)
	one, two := value.Int(1), label(value.Int(2), "A")
	none, empty, some := value.Int(10), value.Nil(), value.List(one)
	for i, c := range []struct {
		g       api.Goal
		members []api.Value
	}{
		{goal([]int{0}, nil), []api.Value{one, two, empty}},
		{goal([]int{1, 0}, nil), []api.Value{one, two}},
		{goal([]int{1, 4}, nil), []api.Value{two}},
		{goal([]int{4, 1, 4, 1}, nil), []api.Value{two}},
		{goal(nil, []int{0}), []api.Value{none, some}},
		{goal(nil, []int{1}), []api.Value{none, empty, some}},
		{goal(nil, []int{2, 1, 2}), []api.Value{none, some}},
		{goal([]int{0}, []int{4}), []api.Value{one, empty}},
		{goal([]int{0}, []int{4, 2}), []api.Value{one}},
		{goal([]int{0}, []int{0}), nil},
		{goal([]int{3}, []int{4, 3}), nil},
		{onlyLists(goal([]int{0}, nil)), []api.Value{empty}},
		{onlyLists(goal(nil, []int{0})), []api.Value{some}},
		{onlyLists(goal([]int{3}, []int{4})), []api.Value{empty, some}},
		{onlyLists(goal([]int{5}, []int{2})), []api.Value{some}},
		{onlyLists(goal([]int{1}, nil)), nil},
	} {
		for _, v := range []api.Value{one, two, none, empty, some} {
			wanted := false
			for _, m := range c.members {
				wanted = wanted || value.Equal(v, m)
			}
			if lines.InGoal(v, x, c.g) != wanted {
				t.Error(i, c.g, v, wanted)
			}
		}
	}
}

// P9.1: Normal has each index once, in ascending order, whatever the indices are.
func TestNormal(t *testing.T) {
	for _, c := range []struct{ g, wanted api.Goal }{
		{api.Goal{}, api.Goal{}},
		{api.Goal{Lists: true}, api.Goal{Lists: true}},
		{goal([]int{3}, []int{3}), goal([]int{3}, []int{3})},
		{goal([]int{3, 1, 2}, nil), goal([]int{1, 2, 3}, nil)},
		{goal(nil, []int{3, 1, 2}), goal(nil, []int{1, 2, 3})},
		{goal([]int{2, 2, 2}, []int{1, 0, 1, 0}), goal([]int{2}, []int{0, 1})},
		{onlyLists(goal([]int{5, 1, 5, 0, 1}, []int{5, 4, 5})), onlyLists(goal([]int{0, 1, 5}, []int{4, 5}))},
		{goal([]int{7, -1, 7, -3}, []int{greatest, least, greatest}), goal([]int{-3, -1, 7}, []int{least, greatest})},
		{goal([]int{0, 1, 2}, []int{3, 4}), goal([]int{0, 1, 2}, []int{3, 4})},
	} {
		if got := lines.Normal(c.g); show(got) != show(c.wanted) {
			t.Error(c.g, got)
		}
	}
}
