package product

import (
	"cmp"
	"slices"
)

// outside is a way to be outside of a row: the part is not in the set of the index.
type outside struct{ part, index int }

// compare puts later parts first, so that the ways of a row, from its first part on, are descending.
func compare(a, b outside) int {
	return cmp.Or(cmp.Compare(b.part, a.part), cmp.Compare(a.index, b.index))
}

// counter has a digit for each row: the way to be outside of it. It stops where each way that is taken is needed: some row has no other way that is taken. So what is taken at one stop is never part of what is taken at another one.
//
// The digits are turned from the first row on. A way that is needed by later rows only is taken for one of them: so each way that is taken is needed by the rows so far at any time, and what is taken at a stop is met there only.
type counter struct {
	ways   []outside // ascending; elsewhere ways are indices of this list
	rows   [][]int   // for each row its ways, descending
	having [][]int   // for each way the rows that have it, ascending
	digits []int     // 0, met, or the position in the row, counted from 1, of the way that is taken
	taken  []int     // ways
	used   []bool    // for each way whether it is taken
	times  []int     // for each row how many of its ways are taken
	needed []int     // for each way that is taken how many rows so far have no other one that is taken
}

// met is the digit of a row for which a way does that is taken for a row before it.
const met = -1

// newCounter sorts the rows by their greatest way first. So, for each n, the rows that have the first n ways only stand before all others, and what is taken for them is part of what is taken at some stop: few stops take few turns.
func newCounter(rows [][]outside) *counter {
	c := &counter{ways: slices.Concat(rows...)}
	slices.SortFunc(c.ways, compare)
	c.ways = slices.Compact(c.ways)
	for _, row := range rows {
		c.rows = append(c.rows, c.numbers(row))
	}
	slices.SortFunc(c.rows, slices.Compare)
	c.rows = slices.CompactFunc(c.rows, slices.Equal)
	c.having = make([][]int, len(c.ways))
	for r, row := range c.rows {
		for _, w := range row {
			c.having[w] = append(c.having[w], r)
		}
	}
	c.digits, c.times = make([]int, len(c.rows)), make([]int, len(c.rows))
	c.needed, c.used = make([]int, len(c.ways)), make([]bool, len(c.ways))
	return c
}

func (c *counter) numbers(row []outside) (l []int) {
	for _, o := range row {
		w, _ := slices.BinarySearchFunc(c.ways, o, compare)
		l = append(l, w)
	}
	return l
}

// run calls stop with what is taken at each stop.
func (c *counter) run(stop func([]outside)) {
	for row := 0; row >= 0; {
		if row == len(c.rows) {
			stop(c.waysTaken())
		}
		if row < len(c.rows) && c.turn(row) {
			row++
		} else {
			row--
		}
	}
}

func (c *counter) waysTaken() (l []outside) {
	for _, w := range c.taken {
		l = append(l, c.ways[w])
	}
	return l
}

// turn turns the digit of the row, while those of later rows are 0, and reports whether it is not 0 again.
func (c *counter) turn(row int) bool {
	switch {
	case c.digits[row] == met:
		c.count(row, -1)
		c.digits[row] = 0
		return false
	case c.digits[row] == 0 && c.times[row] > 0:
		c.count(row, 1)
		c.digits[row] = met
		return true
	case c.digits[row] > 0:
		c.drop(row)
	}
	for ways := c.rows[row]; c.digits[row] < len(ways); {
		c.digits[row]++
		if c.take(row, ways[c.digits[row]-1]) {
			return true
		}
	}
	c.digits[row] = 0
	return false
}

// take takes the way for the row, unless another one is not needed any more then, and reports whether it is taken.
func (c *counter) take(row, way int) bool {
	before := c.rowsBefore(row, way)
	for i, r := range before {
		if !c.count(r, -1) {
			c.countAll(before[:i+1])
			return false
		}
	}
	for _, r := range c.having[way] {
		c.times[r]++
	}
	c.taken, c.used[way] = append(c.taken, way), true
	c.count(row, 1)
	return true
}

// drop undoes the last take, which was for the row.
func (c *counter) drop(row int) {
	c.count(row, -1)
	last := len(c.taken) - 1
	way := c.taken[last]
	c.taken, c.used[way] = c.taken[:last], false
	for _, r := range c.having[way] {
		c.times[r]--
	}
	c.countAll(c.rowsBefore(row, way))
}

func (c *counter) rowsBefore(row, way int) []int {
	n, _ := slices.BinarySearch(c.having[way], row)
	return c.having[way][:n]
}

// count counts the row, or, with -1, takes it from the count, if it has one way only that is taken. It reports whether no way loses all rows that need it.
func (c *counter) count(row, by int) bool {
	if c.times[row] != 1 {
		return true
	}
	i := slices.IndexFunc(c.rows[row], func(w int) bool { return c.used[w] })
	only := c.rows[row][i]
	c.needed[only] += by
	return c.needed[only] > 0
}

func (c *counter) countAll(rows []int) {
	for _, r := range rows {
		c.count(r, 1)
	}
}
