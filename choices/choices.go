// Package choices finds the least sets of ways that meet all rows of a list. The layers use it where each of several nodes leaves a choice: for example, in which way a value is outside of it.
package choices

import (
	"cmp"
	"iter"
	"slices"
)

// Way is a way to meet the rows that have it: the index says what is so at the place. One that is Alone excludes all others at its place.
type Way struct {
	Place, Index int
	Alone        bool
}

// compare puts later places first, so that the ways of a row, from its first place on, are descending.
func compare(a, b Way) int {
	return cmp.Or(cmp.Compare(b.Place, a.Place), falseFirst(a.Alone, b.Alone), cmp.Compare(a.Index, b.Index))
}

func falseFirst(a, b bool) int {
	switch {
	case a == b:
		return 0
	case b:
		return -1
	}
	return 1
}

// Sets yields the sets that have a way of each row, no two ways that exclude each other, and no way without which they would have one of each row. It yields each of them once.
func Sets(rows [][]Way) iter.Seq[[]Way] {
	return func(yield func([]Way) bool) {
		c := newCounter(rows)
		for row := 0; row >= 0; {
			if row == len(c.rows) && !yield(c.waysTaken()) {
				return
			}
			if row < len(c.rows) && c.turn(row) {
				row++
			} else {
				row--
			}
		}
	}
}

// counter has a digit for each row: the way that is taken for it. It stops where each way that is taken is needed: some row has no other way that is taken. So what is taken at one stop is never part of what is taken at another one.
//
// The digits are turned from the first row on. A way that is needed by later rows only is taken for one of them: so each way that is taken is needed by the rows so far at any time, and what is taken at a stop is met there only.
type counter struct {
	ways   []Way   // ascending; elsewhere ways are indices of this list
	rows   [][]int // for each row its ways, descending
	having [][]int // for each way the rows that have it, ascending
	places []int   // for each way its place, an index of the list at
	digits []int   // 0, met, or the position in the row, counted from 1, of the way that is taken
	taken  []int   // ways
	used   []bool  // for each way whether it is taken
	times  []int   // for each row how many of its ways are taken
	needed []int   // for each way that is taken how many rows so far have no other one that is taken
	at     []int   // for each place how many of its ways are taken; alone, if one that excludes all others is
}

// met is the digit of a row for which a way does that is taken for a row before it.
const met = -1

const alone = -1

// newCounter sorts the rows with several ways by their greatest way first. So, for each n, those that have the first n ways only stand before all others, and what is taken for them, if no ways exclude each other, is part of what is taken at some stop: few stops take few turns.
func newCounter(rows [][]Way) *counter {
	c := &counter{ways: slices.Concat(rows...)}
	slices.SortFunc(c.ways, compare)
	c.ways = slices.Compact(c.ways)
	for _, row := range rows {
		c.rows = append(c.rows, c.numbers(row))
	}
	slices.SortFunc(c.rows, compareRows)
	c.rows = slices.CompactFunc(c.rows, slices.Equal)
	c.having = make([][]int, len(c.ways))
	for r, row := range c.rows {
		for _, w := range row {
			c.having[w] = append(c.having[w], r)
		}
	}
	for w, way := range c.ways {
		if w == 0 || c.ways[w-1].Place != way.Place {
			c.at = append(c.at, 0)
		}
		c.places = append(c.places, len(c.at)-1)
	}
	c.digits, c.times = make([]int, len(c.rows)), make([]int, len(c.rows))
	c.needed, c.used = make([]int, len(c.ways)), make([]bool, len(c.ways))
	return c
}

// compareRows puts rows with one way first: what they leave no choice about is known before the others are tried.
func compareRows(a, b []int) int {
	return cmp.Or(falseFirst(len(a) > 1, len(b) > 1), slices.Compare(a, b))
}

// numbers returns the ways of the row, descending and each once.
func (c *counter) numbers(row []Way) (l []int) {
	for _, way := range row {
		w, _ := slices.BinarySearchFunc(c.ways, way, compare)
		l = append(l, w)
	}
	slices.SortFunc(l, func(a, b int) int { return cmp.Compare(b, a) })
	return slices.Compact(l)
}

func (c *counter) waysTaken() (l []Way) {
	for _, w := range c.taken {
		l = append(l, c.ways[w])
	}
	return l
}

// turn turns the digit of the row, while those of later rows are 0, and reports whether it is not 0 again.
func (c *counter) turn(row int) bool {
	switch {
	case c.digits[row] == met:
		c.count(row, -1)
		c.digits[row] = 0
		return false
	case c.digits[row] == 0 && c.times[row] > 0:
		c.count(row, 1)
		c.digits[row] = met
		return true
	case c.digits[row] > 0:
		c.drop(row)
	}
	for ways := c.rows[row]; c.digits[row] < len(ways); {
		c.digits[row]++
		if c.take(row, ways[c.digits[row]-1]) {
			return true
		}
	}
	c.digits[row] = 0
	return false
}

// take takes the way for the row, unless one that is taken excludes it or is not needed any more then, and reports whether it is taken.
func (c *counter) take(row, way int) bool {
	if c.isExcluded(way) {
		return false
	}
	before := c.rowsBefore(row, way)
	for i, r := range before {
		if !c.count(r, -1) {
			c.countAll(before[:i+1])
			return false
		}
	}
	for _, r := range c.having[way] {
		c.times[r]++
	}
	c.taken, c.used[way] = append(c.taken, way), true
	c.occupy(way)
	c.count(row, 1)
	return true
}

// drop undoes the last take, which was for the row.
func (c *counter) drop(row int) {
	c.count(row, -1)
	last := len(c.taken) - 1
	way := c.taken[last]
	c.taken, c.used[way] = c.taken[:last], false
	c.leave(way)
	for _, r := range c.having[way] {
		c.times[r]--
	}
	c.countAll(c.rowsBefore(row, way))
}

func (c *counter) isExcluded(way int) bool {
	others := c.at[c.places[way]]
	return others == alone || others > 0 && c.ways[way].Alone
}

func (c *counter) occupy(way int) {
	if at := &c.at[c.places[way]]; c.ways[way].Alone {
		*at = alone
	} else {
		*at++
	}
}

func (c *counter) leave(way int) {
	if at := &c.at[c.places[way]]; c.ways[way].Alone {
		*at = 0
	} else {
		*at--
	}
}

func (c *counter) rowsBefore(row, way int) []int {
	n, _ := slices.BinarySearch(c.having[way], row)
	return c.having[way][:n]
}

// count counts the row, or, with -1, takes it from the count, if it has one way only that is taken. It reports whether no way loses all rows that need it.
func (c *counter) count(row, by int) bool {
	if c.times[row] != 1 {
		return true
	}
	i := slices.IndexFunc(c.rows[row], func(w int) bool { return c.used[w] })
	only := c.rows[row][i]
	c.needed[only] += by
	return c.needed[only] > 0
}

func (c *counter) countAll(rows []int) {
	for _, r := range rows {
		c.count(r, 1)
	}
}
