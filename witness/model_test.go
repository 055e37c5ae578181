package witness_test

import (
	"math/rand"
	"slices"
	"testing"

	"semtype/api"
	"semtype/lines"
	"semtype/samples"
	"semtype/value"
)

// pairGoals returns the goals with up to one index in Pos and up to one in Neg, and those with two in Pos.
func pairGoals() (l []api.Goal) {
	for m := range allNodes {
		l = append(l, in(m), both(nil, m), lists(in(m)), lists(both(nil, m)))
		for n := range allNodes {
			l = append(l, both(only(m), n))
			if m < n {
				l = append(l, in(m, n))
			}
		}
	}
	return l
}

// checkPool checks that no value of a pool is in the goal that is lower than v or, if there is no witness, that is low enough to be one.
func checkPool(t *testing.T, m *samples.Members, g api.Goal, v api.Value, code api.Code) {
	t.Helper()
	for _, w := range m.Of(g) {
		height := value.Height(w)
		if code == api.ErrEmpty || code == api.ErrLimit && height <= api.MaxHeight || code == api.OK && height < value.Height(v) {
			t.Fatalf("%+v is in %+v of %+v, and Least returns %v %+v", w, g, m.Type, code, v)
		}
	}
}

// tally counts heights of witnesses; 0 stands for goals without members.
type tally map[int]int

func (c tally) count(v api.Value, code api.Code) {
	switch code {
	case api.OK:
		c[value.Height(v)]++
	case api.ErrEmpty:
		c[0]++
	}
}

// expect keeps tests from asking only what is easy: of each height from 0 on there have to be this many.
func (c tally) expect(t *testing.T, wanted ...int) {
	t.Helper()
	for height, number := range wanted {
		if c[height] < number {
			t.Error(c)
		}
	}
}

// P15.1 for all pairs of nodes, and for more nodes: each result is a witness, and none of the values of a pool is a lower one. The pool has the witnesses of the pairs, too.
func TestPairsOfNodes(t *testing.T) {
	x := zoo(t)
	pool, found := samples.Values(), tally{}
	for _, g := range pairGoals() {
		v, code := leastOf(t, x, g)
		if found.count(v, code); code == api.OK {
			pool = append(pool, v)
		}
	}
	found.expect(t, 1000, 1000, 500, 200, 100, 50, 50)
	slices.SortFunc(pool, value.Compare)
	m := samples.NewMembers(x, slices.CompactFunc(pool, value.Equal))
	for _, g := range pairGoals() {
		v, code := leastOf(t, x, g)
		checkPool(t, m, g, v, code)
	}
	r := rand.New(rand.NewSource(1))
	for range 500 {
		g := both(someOf(r, 3), someOf(r, 4)...)
		g.Lists = r.Intn(5) == 0
		v, code := leastOf(t, x, g)
		checkPool(t, m, lines.Normal(g), v, code)
	}
}

// someOf returns up to this many nodes of the zoo.
func someOf(r *rand.Rand, most int) (l []int) {
	for range r.Intn(most + 1) {
		l = append(l, r.Intn(allNodes))
	}
	return l
}

// P15.1 for random types: as for the zoo.
func TestRandomTypes(t *testing.T) {
	r := rand.New(rand.NewSource(15))
	all, found := samples.Values(), tally{}
	for range 400 {
		size := 3 + r.Intn(12)
		x := samples.RandomType(r, size)
		var pool []api.Value
		for range 12 {
			pool = append(pool, all[r.Intn(len(all))])
		}
		for n := range size {
			for _, g := range []api.Goal{in(n), both(nil, n)} {
				if v, code := leastOf(t, x, g); code == api.OK {
					pool = append(pool, v)
				}
			}
		}
		m := samples.NewMembers(x, pool)
		for range 6 {
			g := randomGoal(r, x)
			v, code := leastOf(t, x, g)
			found.count(v, code)
			checkPool(t, m, lines.Normal(g), v, code)
		}
	}
	found.expect(t, 500, 200, 30, 3)
}

// randomGoal prefers nodes that have Kids.
func randomGoal(r *rand.Rand, x api.Type) api.Goal {
	g := api.Goal{Lists: r.Intn(9) == 0}
	for range 1 + r.Intn(3) {
		g.Pos, g.Neg = append(g.Pos, parent(r, x)), append(g.Neg, parent(r, x))
	}
	g.Neg = g.Neg[r.Intn(len(g.Neg)):]
	return g
}

func parent(r *rand.Rand, x api.Type) int {
	n := 0
	for range 3 {
		if n = r.Intn(len(x.Nodes)); len(x.Nodes[n].Kids) > 0 {
			return n
		}
	}
	return n
}

// P15.1: the order and the repetition of nodes do not matter, nor does the root, and a node in Pos and Neg leaves no members.
func TestSameGoals(t *testing.T) {
	x := zoo(t)
	r := rand.New(rand.NewSource(2))
	for range 300 {
		g := both(someOf(r, 3), someOf(r, 3)...)
		g.Lists = r.Intn(5) == 0
		v, code := leastOf(t, x, g)
		other := api.Goal{Pos: slices.Concat(g.Pos, g.Pos), Neg: slices.Concat(g.Neg, g.Neg), Lists: g.Lists}
		r.Shuffle(len(other.Pos), func(i, j int) { other.Pos[i], other.Pos[j] = other.Pos[j], other.Pos[i] })
		r.Shuffle(len(other.Neg), func(i, j int) { other.Neg[i], other.Neg[j] = other.Neg[j], other.Neg[i] })
		x.Root = r.Intn(allNodes)
		if w, again := leastOf(t, x, other); again != code || !value.Equal(w, v) {
			t.Errorf("%v %+v instead of %v %+v for %+v", again, w, code, v, other)
		}
		for _, n := range g.Pos {
			expectCode(t, "a node of both", x, both(g.Pos, append(g.Neg, n)...), api.ErrEmpty)
		}
	}
}
