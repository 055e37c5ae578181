package choices_test

import (
	"fmt"
	"maps"
	"math"
	"math/rand"
	"slices"
	"testing"

	"semtype/choices"
)

type way = choices.Way

func at(place, index int) way { return way{Place: place, Index: index} }

func alone(place, index int) way { return way{Place: place, Index: index, Alone: true} }

func excludes(a, b way) bool { return a != b && a.Place == b.Place && (a.Alone || b.Alone) }

// isSet follows the words of Sets, but for the ways that can be left out.
func isSet(rows [][]way, set []way) bool {
	for _, a := range set {
		if slices.ContainsFunc(set, func(b way) bool { return excludes(a, b) }) {
			return false
		}
	}
	return meetsAll(rows, set)
}

func meetsAll(rows [][]way, set []way) bool {
	isMet := func(row []way) bool {
		return slices.ContainsFunc(row, func(w way) bool { return slices.Contains(set, w) })
	}
	return !slices.ContainsFunc(rows, func(row []way) bool { return !isMet(row) })
}

// isLeast reports whether no way can be left out.
func isLeast(rows [][]way, set []way) bool {
	for i := range set {
		if meetsAll(rows, slices.Delete(slices.Clone(set), i, i+1)) {
			return false
		}
	}
	return true
}

// wanted tries all sets of the ways that occur.
func wanted(rows [][]way) map[string]bool {
	found := map[way]bool{}
	for _, w := range slices.Concat(rows...) {
		found[w] = true
	}
	ways, sets := slices.Collect(maps.Keys(found)), map[string]bool{}
	for bits := range 1 << len(ways) {
		var set []way
		for i, w := range ways {
			if bits>>i&1 > 0 {
				set = append(set, w)
			}
		}
		if isSet(rows, set) && isLeast(rows, set) {
			sets[show(set)] = true
		}
	}
	return sets
}

// show is the same for all orders of the ways.
func show(set []way) string {
	var l []string
	for _, w := range set {
		l = append(l, fmt.Sprint(w))
	}
	slices.Sort(l)
	return fmt.Sprint(l)
}

func check(t *testing.T, rows [][]way) int {
	t.Helper()
	before := fmt.Sprint(rows)
	sets, found := wanted(rows), map[string]bool{}
	for set := range choices.Sets(rows) {
		s := show(set)
		if !sets[s] || found[s] {
			t.Fatal(rows, s, found[s])
		}
		found[s] = true
	}
	if len(found) != len(sets) || fmt.Sprint(rows) != before {
		t.Fatal(rows, found, sets)
	}
	return len(found)
}

func TestSets(t *testing.T) {
	a, b, c := at(0, 0), at(0, 1), at(1, 0)
	for i, test := range []struct {
		rows   [][]way
		number int
	}{
		{nil, 1},
		{[][]way{nil}, 0},
		{[][]way{{a}, {}}, 0},
		{[][]way{{a}}, 1},
		{[][]way{{a, a}, {a}}, 1},
		{[][]way{{a}, {b}}, 1},
		{[][]way{{a, b, c}}, 3},
		{[][]way{{c, a}, {a, b}, {b, c}}, 3},
		{[][]way{{a, b}, {a}, {b}}, 1},
		{[][]way{{a}, {alone(0, 0)}}, 0},
		{[][]way{{a, alone(0, 0)}}, 2},
		{[][]way{{alone(0, 0)}, {alone(0, 1)}}, 0},
		{[][]way{{alone(0, 0)}, {alone(0, 0), a}, {alone(0, 0), b}}, 1},
		{[][]way{{alone(0, 0)}, {a, c}}, 1},
		{[][]way{{alone(0, 0)}, {c}, {a, b}}, 0},
		{[][]way{{alone(0, 0), a}, {alone(1, 0), c}}, 4},
		{[][]way{{alone(0, 7), a}, {alone(0, 7), b}, {alone(1, 7), a}}, 2},
		{[][]way{{at(math.MinInt, math.MaxInt), at(math.MaxInt, math.MinInt)}, {at(-1, -1)}}, 2},
	} {
		if number := check(t, test.rows); number != test.number {
			t.Error(i, number)
		}
	}
}

func TestRandomRows(t *testing.T) {
	r := rand.New(rand.NewSource(1))
	several, none := 0, 0
	for range 4000 {
		rows := make([][]way, r.Intn(7))
		for i := range rows {
			for range 1 + r.Intn(4) {
				rows[i] = append(rows[i], way{Place: r.Intn(3), Index: r.Intn(2), Alone: r.Intn(4) == 0})
			}
		}
		switch number := check(t, rows); {
		case number > 1:
			several++
		case number == 0:
			none++
		}
	}
	if several < 1000 || none < 200 {
		t.Error(several, none)
	}
}

// A loop that ends early ends the search, and another one begins anew.
func TestBreak(t *testing.T) {
	sets := choices.Sets([][]way{{at(0, 0), at(1, 0)}, {at(2, 0), at(3, 0)}})
	for wanted := range 6 {
		number := 0
		for range sets {
			if number == wanted {
				break
			}
			number++
		}
		if number != min(wanted, 4) {
			t.Error(wanted, number)
		}
	}
}

// Writing into a set changes no other one.
func TestMemory(t *testing.T) {
	rows := [][]way{{at(0, 0), at(1, 0)}, {at(2, 0), alone(3, 0)}, {at(2, 0), at(4, 0)}}
	var sets []string
	for set := range choices.Sets(rows) {
		sets = append(sets, show(set))
		for i := range set[:cap(set)] {
			set[:cap(set)][i] = at(9, 9)
		}
	}
	for set := range choices.Sets(rows) {
		if sets[0] != show(set) {
			t.Error(set, sets[0])
		}
		sets = sets[1:]
	}
}

// What rows with one way exclude is known before other rows are tried.
func TestForcedWays(t *testing.T) {
	var rows [][]way
	for i := range 60 {
		rows = append(rows, []way{at(i, 0), at(i, 1), alone(i, 0)})
	}
	for place := range 62 {
		for range choices.Sets(append(slices.Clone(rows), []way{at(place, 2)}, []way{alone(place, 2)})) {
			t.Fatal(place)
		}
	}
}
