package goalkey_test

import (
	"fmt"
	"math"
	"testing"

	"semtype/api"
	"semtype/goalkey"
)

func TestKeysDiffer(t *testing.T) {
	var goals []api.Goal
	indices := [][]int{nil, {0}, {1}, {-1}, {0, 1}, {1, 0}, {1, 1}, {10}, {1, 0, 1}, {-1, 1}, {11}, {math.MinInt, math.MaxInt}}
	for _, pos := range indices {
		for _, neg := range indices {
			goals = append(goals, api.Goal{Pos: pos, Neg: neg}, api.Goal{Pos: pos, Neg: neg, Lists: true})
		}
	}
	lists := [][]api.Goal{nil, goals[:1:1]}
	for i, g := range goals {
		lists = append(lists, []api.Goal{g, g}, []api.Goal{g, goals[(7*i+1)%len(goals)]}, []api.Goal{{}, {}, g})
		if i > 0 {
			lists = append(lists, []api.Goal{g})
		}
	}
	seen := map[string]string{}
	for _, l := range lists {
		k, text := goalkey.Of(l...), fmt.Sprint(l)
		if other, found := seen[k]; found {
			t.Error(k, text, other)
		}
		if seen[k] = text; goalkey.Of(l...) != k {
			t.Error(k, text)
		}
	}
}

func TestNilAndEmpty(t *testing.T) {
	for _, g := range []api.Goal{{Pos: []int{}}, {Neg: []int{}}, {Pos: []int{}, Neg: []int{}}} {
		if goalkey.Of(g) != goalkey.Of(api.Goal{}) {
			t.Error(g)
		}
	}
	if goalkey.Of() != goalkey.Of([]api.Goal{}...) || goalkey.Of() == goalkey.Of(api.Goal{}) {
		t.Error("no goals")
	}
}
