package goal_test

import (
	"math/rand"
	"testing"

	"semtype/api"
	"semtype/goal"
	"semtype/lines"
	"semtype/samples"
	"semtype/value"
)

// rounds finds members of goals: in each round those of goals with an alternative whose subgoals have members from earlier rounds.
type rounds struct {
	x            api.Type
	alternatives map[string][]api.Alternative
	members      map[string]api.Value
}

// leastMember returns a member of least height of the goal, and false if it has none.
func leastMember(t *testing.T, x api.Type, g api.Goal) (api.Value, bool) {
	t.Helper()
	s := rounds{x, map[string][]api.Alternative{}, map[string]api.Value{}}
	s.reach(g)
	for {
		found := map[string]api.Value{}
		for k, l := range s.alternatives {
			if _, known := s.members[k]; !known {
				s.find(t, l, func(v api.Value) { found[k] = v })
			}
		}
		if len(found) == 0 {
			v, ok := s.members[show(g)]
			return v, ok
		}
		for k, v := range found {
			s.members[k] = v
		}
	}
}

func (s *rounds) reach(g api.Goal) {
	if _, known := s.alternatives[show(g)]; known {
		return
	}
	l := goal.Alternatives(s.x, g)
	s.alternatives[show(g)] = l
	for _, alt := range l {
		for _, h := range alt.Subgoals {
			s.reach(h)
		}
	}
}

// find calls use with a value that one of the alternatives makes, if there is one.
func (s *rounds) find(t *testing.T, l []api.Alternative, use func(api.Value)) {
	t.Helper()
	for _, alt := range l {
		var parts []api.Value
		for _, g := range alt.Subgoals {
			if v, known := s.members[show(g)]; known {
				parts = append(parts, v)
			}
		}
		if len(parts) == len(alt.Subgoals) {
			use(mustMake(t, alt, parts...))
			return
		}
	}
}

// The chapter's last sentence: the least heights of goals.
func TestLeastHeights(t *testing.T) {
	x := zoo(t)
	for i, c := range []struct {
		g      api.Goal
		height int
	}{
		{in(), 1}, {in(none), 0}, {in(five), 1}, {both(only(five), digit), 0}, {in(loop), 0}, {in(nested), 0}, {both(only(tuples), loop), 1},
		{in(pair), 2}, {in(cons), 2}, {both(only(cons), list), 0}, {in(quadruple), 3}, {in(digits), 1}, {both(only(digits), nothing), 2}, {in(triple), 2}, {in(triple, notDigit), 2},
		{in(closed), 2}, {in(open), 2}, {in(records), 1}, {both(only(records), emptyMap), 2}, {both(only(records), open, optionalA), 2}, {both(only(open), closed), 2}, {both(only(textKeys), emptyMap), 2},
		{in(functions), 1}, {in(allToNone), 1}, {both(only(functions), allToNone), 1}, {both(only(digitToDigit), allToNone), 2}, {both(only(digitToDigit), atomToList), 2}, {both(only(allToNone), atomToList), 0}, {both(only(toDigit), toAtom), 2}, {both(only(toAtom), toAtom), 0}, {both(only(digitToDigit), digitToDigit), 0}, {both(only(allToNone), digitToDigit), 0},
		{in(common), 1}, {both(only(mixed), atoms), 1}, {both(only(mixed, tuples)), 2}, {both(only(mixed), atoms, functions), 2},
	} {
		v, ok := leastMember(t, x, c.g)
		if ok != (c.height > 0) || ok && (value.Height(v) != c.height || !lines.InGoal(v, x, c.g)) {
			t.Errorf("%d: %+v %t", i, v, ok)
		}
	}
}

// Lists with at least n elements have the least height n + 1.
func TestHeightsOfLists(t *testing.T) {
	x := graph(kind(api.TUnion, 1, 2), kind(api.TNil), kind(api.TCons, 3, 0), kind(api.TAny))
	for n := range 6 {
		x.Root = len(x.Nodes) - 1
		if n == 0 {
			x.Root = 0
		}
		mustBeWellFormed(t, x)
		if v, ok := leastMember(t, x, in(x.Root)); !ok || value.Height(v) != n+1 {
			t.Error(n, v, ok)
		}
		x.Nodes = append(x.Nodes, kind(api.TCons, 3, x.Root))
	}
}

// P13.1, P13.2: what is found for random goals is a member, and no value of a pool is a smaller one.
func TestRandomHeights(t *testing.T) {
	r := rand.New(rand.NewSource(6))
	all := samples.Values()
	found := map[int]int{}
	for range 2500 {
		x := samples.RandomType(r, 3+r.Intn(8))
		var nodes, products []int
		for n, node := range x.Nodes {
			nodes = append(nodes, n)
			if len(node.Kids) > 1 || len(node.Fields) > 1 {
				products = append(products, n)
			}
		}
		g := lines.Normal(both(append(someOf(r, nodes, 1), someOf(r, products, 1)...), someOf(r, nodes, 2)...))
		v, ok := leastMember(t, x, g)
		height := value.Height(v)
		if !ok {
			height = 0
		}
		if ok && !lines.InGoal(v, x, g) {
			t.Fatalf("%+v is no member of %+v in %+v", v, g, x)
		}
		found[height]++
		for range 40 {
			if w := all[r.Intn(len(all))]; (!ok || value.Height(w) < height) && lines.InGoal(w, x, g) {
				t.Fatalf("%+v is a member of %+v in %+v, and the least height %d", w, g, x, height)
			}
		}
	}
	for height, least := range only(200, 500, 50, 5) {
		if found[height] < least {
			t.Error(found)
		}
	}
}
