package lines_test

import (
	"math/rand"
	"testing"

	"semtype/api"
	"semtype/lines"
	"semtype/samples"
)

// connected adds connectives over the nodes of x, within each other.
func connected(r *rand.Rand, x api.Type, more int) api.Type {
	for range more {
		k := []int{api.TUnion, api.TUnion, api.TInter, api.TInter, api.TNot}[r.Intn(5)]
		node := kind(k)
		for range map[int]int{api.TUnion: 1 + r.Intn(3), api.TInter: 1 + r.Intn(3), api.TNot: 1}[k] {
			node.Kids = append(node.Kids, r.Intn(len(x.Nodes)))
		}
		x.Nodes = append(x.Nodes, node)
	}
	return x
}

// similar has nodes of a kind of values only, so that many of them count in a line.
func similar(r *rand.Rand) api.Type {
	l := []api.TypeNode{kind(api.TAny), text(api.TVar, "A"), text(api.TVar, "B"), text(api.TVar, "A")}
	switch r.Intn(5) {
	case 0:
		l = append(l, from(least, 0), from(0, 0), from(-5, 5), from(1, greatest))
	case 1:
		l = append(l, text(api.TAtom, "a"), text(api.TAtom, "b"), kind(api.TAtoms), text(api.TAtom, "a"))
	case 2:
		l = append(l, text(api.TString, ""), text(api.TString, "a"), kind(api.TStrings), kind(api.TPid))
	case 3:
		l = append(l, kind(api.TTuple, 0, 1), kind(api.TTuple, 1, 0), kind(api.TTuple, 1, 1), kind(api.TTuple, 2), kind(api.TTuples))
	case 4:
		l = append(l, kind(api.TCons, 0, 1), kind(api.TCons, 1, 0), kind(api.TNil), kind(api.TFun, 1, 1), kind(api.TFun, 0, 2))
	}
	return graph(l...)
}

func someNodes(r *rand.Rand, x api.Type, most int) (l []int) {
	for range r.Intn(most + 1) {
		l = append(l, r.Intn(len(x.Nodes)))
	}
	return l
}

// P9.1 to P9.3: random goals of random types have the values that the words of the chapter say, and so have their lines.
func TestRandomGoals(t *testing.T) {
	all, r := samples.Values(), rand.New(rand.NewSource(9))
	found := map[bool]int{}
	for round := range 1500 {
		r.Shuffle(len(all), func(i, k int) { all[i], all[k] = all[k], all[i] })
		values := all[:80]
		x := samples.RandomType(r, 1+r.Intn(12))
		if round%2 == 0 {
			x = similar(r)
		}
		x = connected(r, x, r.Intn(14))
		mustBeWellFormed(t, x)
		m := newTable(x, values)
		for range 4 {
			g := api.Goal{Pos: someNodes(r, x, 4), Neg: someNodes(r, x, 3), Lists: r.Intn(6) == 0}
			l, n := check(t, m, g)
			found[n > 0]++
			for i := r.Intn(20); i < len(values); i += 20 {
				if lines.InGoal(values[i], x, g) != m.inGoal(i, g) {
					t.Fatal(values[i], x, g)
				}
				for _, line := range l {
					if lines.InLine(values[i], x, line) != m.inLine(i, line) {
						t.Fatal(values[i], x, line)
					}
				}
			}
		}
	}
	if found[true] < 1000 || found[false] < 1000 {
		t.Error(found)
	}
}
