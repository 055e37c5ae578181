package solve_test

import (
	"math/rand"
	"slices"
	"testing"

	"semtype/api"
	"semtype/lines"
	"semtype/samples"
	"semtype/solve"
	"semtype/value"
)

// pairGoals returns the goals with up to one index in Pos and up to one in Neg, and those with two in Pos.
func pairGoals() (l []api.Goal) {
	for m := range allNodes {
		l = append(l, in(m), both(nil, m), lists(in(m)), lists(both(nil, m)))
		for n := range allNodes {
			l = append(l, both(only(m), n))
			if m < n {
				l = append(l, in(m, n))
			}
		}
	}
	return l
}

// P14.1: there is a member of the least height, and none of the values of a pool is a lower one. The pool has members of the pairs of nodes, too.
func TestPairsOfNodes(t *testing.T) {
	x := zoo(t)
	pool, found := samples.Values(), map[int]int{}
	for _, g := range pairGoals() {
		height := heightOf(t, x, g)
		if found[height]++; height > 0 {
			pool = append(pool, leastMember(t, x, g))
		}
	}
	for height, wanted := range only(1000, 1000, 500, 200, 100, 5) {
		if found[height] < wanted {
			t.Error(found)
		}
	}
	slices.SortFunc(pool, value.Compare)
	m := samples.NewMembers(x, slices.CompactFunc(pool, value.Equal))
	for _, g := range pairGoals() {
		checkPool(t, m, g, solve.LeastHeight(x, g))
	}
	r := rand.New(rand.NewSource(1))
	for range 500 {
		g := both(someOf(r, 3), someOf(r, 4)...)
		g.Lists = r.Intn(5) == 0
		check(t, m, lines.Normal(g))
	}
}

// check checks that the height of a goal is that of a member, and that none of the values is lower.
func check(t *testing.T, m *samples.Members, g api.Goal) (height int) {
	t.Helper()
	if height = heightOf(t, m.Type, g); height > 0 {
		leastMember(t, m.Type, g)
	}
	checkPool(t, m, g, height)
	return height
}

func checkPool(t *testing.T, m *samples.Members, g api.Goal, height int) {
	t.Helper()
	for _, v := range m.Of(g) {
		if height == 0 || value.Height(v) < height {
			t.Fatalf("%+v is lower than %d in %+v of %+v", v, height, g, m.Type)
		}
	}
}

// someOf returns up to this many nodes of the zoo.
func someOf(r *rand.Rand, most int) (l []int) {
	for range r.Intn(most + 1) {
		l = append(l, r.Intn(allNodes))
	}
	return l
}

// P14.1 for random types: as for the zoo.
func TestRandomTypes(t *testing.T) {
	r := rand.New(rand.NewSource(14))
	all, found := samples.Values(), map[int]int{}
	for range 300 {
		size := 3 + r.Intn(12)
		x := samples.RandomType(r, size)
		var pool []api.Value
		for range 12 {
			pool = append(pool, all[r.Intn(len(all))])
		}
		for n := range size {
			for _, g := range []api.Goal{in(n), both(nil, n)} {
				if heightOf(t, x, g) > 0 {
					pool = append(pool, leastMember(t, x, g))
				}
			}
		}
		m := samples.NewMembers(x, pool)
		for range 6 {
			g := api.Goal{Lists: r.Intn(9) == 0}
			for range 1 + r.Intn(3) {
				g.Pos, g.Neg = append(g.Pos, parent(r, x)), append(g.Neg, parent(r, x))
			}
			g.Neg = g.Neg[r.Intn(len(g.Neg)):]
			found[check(t, m, lines.Normal(g))]++
		}
	}
	for height, wanted := range only(500, 200, 30, 3) {
		if found[height] < wanted {
			t.Error(found)
		}
	}
}

// parent returns a node that has Kids, if one is found soon.
func parent(r *rand.Rand, x api.Type) int {
	n := 0
	for range 3 {
		if n = r.Intn(len(x.Nodes)); len(x.Nodes[n].Kids) > 0 {
			return n
		}
	}
	return n
}

// P14.1: the order and the repetition of nodes do not matter, nor how often a goal is asked, nor the root.
func TestSameAnswers(t *testing.T) {
	x := zoo(t)
	r := rand.New(rand.NewSource(2))
	for range 300 {
		g := both(someOf(r, 3), someOf(r, 3)...)
		height := heightOf(t, x, g)
		other := x
		other.Root = r.Intn(allNodes)
		pos, neg := slices.Concat(g.Pos, g.Pos), slices.Concat(g.Neg, g.Neg)
		r.Shuffle(len(pos), func(i, j int) { pos[i], pos[j] = pos[j], pos[i] })
		r.Shuffle(len(neg), func(i, j int) { neg[i], neg[j] = neg[j], neg[i] })
		expect(t, "the same goal again", x, g, height)
		expect(t, "another order", x, both(pos, neg...), height)
		expect(t, "another root", other, both(neg, pos...), heightOf(t, x, both(neg, pos...)))
		for _, n := range g.Pos {
			expect(t, "a node of both", x, both(g.Pos, append(neg, n)...), 0)
		}
	}
}

// A type that is part of a larger one has the same heights there.
func TestLargerTypes(t *testing.T) {
	x := zoo(t)
	other := api.Type{}
	for _, node := range x.Nodes {
		node.Kids, node.Fields = slices.Clone(node.Kids), slices.Clone(node.Fields)
		for i := range node.Kids {
			node.Kids[i] += allNodes
		}
		for i := range node.Fields {
			node.Fields[i].Node += allNodes
		}
		if node.Kind == api.TMap {
			node.Rest = [2]int{node.Rest[0] + allNodes, node.Rest[1] + allNodes}
		}
		other.Nodes = append(other.Nodes, node)
	}
	joined := api.Type{Nodes: slices.Concat(x.Nodes, other.Nodes)}
	mustBeWellFormed(t, joined)
	for n := range allNodes {
		expect(t, "a copy", joined, in(n+allNodes), heightOf(t, x, in(n)))
		expect(t, "a node less its copy", joined, both(only(n), n+allNodes), 0)
		expect(t, "a copy and its original", joined, in(n, n+allNodes), heightOf(t, x, in(n)))
		expect(t, "a copy less another node", joined, both(only(n+allNodes), (n+7)%allNodes), heightOf(t, x, both(only(n), (n+7)%allNodes)))
	}
}
