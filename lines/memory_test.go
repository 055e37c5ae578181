package lines_test

import (
	"fmt"
	"testing"

	"semtype/api"
	"semtype/lines"
	"semtype/samples"
	"semtype/value"
)

func roomyGoal(pos, neg []int) api.Goal {
	return goal(samples.WithRoom(pos), samples.WithRoom(neg))
}

func placesOfLines(l []api.Line) []any {
	all := samples.Places(l)
	for _, line := range l {
		all = append(all, samples.PlacesOfLine(line)...)
	}
	return all
}

// R2: arguments are not changed, also not behind their elements, and no two slices share memory.
func TestMemory(t *testing.T) {
	x := zoo(t)
	x.Nodes = samples.WithRoom(x.Nodes)
	for i := range x.Nodes {
		x.Nodes[i].Kids = samples.WithRoom(x.Nodes[i].Kids)
	}
	goals := []api.Goal{
		roomyGoal([]int{42, 56, 42}, []int{53, 34}), roomyGoal(nil, []int{5, 9, 10, 34}), roomyGoal([]int{56, 1}, []int{0}), roomyGoal([]int{3}, nil), roomyGoal([]int{1, 2}, []int{3, 4}), roomyGoal(nil, nil), {},
	}
	v := value.Tuple(label(value.Int(1), "A"), samples.Fun(1, samples.Fails(value.Atom("a"))))
	line := api.Line{Kind: api.VTuple, Arity: 2, Pos: samples.WithRoom([]int{19, 18, 18}), Neg: samples.WithRoom([]int{17, 16}), Vars: samples.WithRoom([]string{"B", "A", "B"}), NotVars: samples.WithRoom([]string{"D", "C"})}
	state := func() string {
		s := fmt.Sprint(x.Nodes[:cap(x.Nodes)], v, line.Pos[:cap(line.Pos)], line.Neg[:cap(line.Neg)], line.Vars[:cap(line.Vars)], line.NotVars[:cap(line.NotVars)])
		for _, g := range goals {
			s += fmt.Sprint(g.Pos[:cap(g.Pos)], g.Neg[:cap(g.Neg)])
		}
		for _, node := range x.Nodes[:len(x.Nodes)] {
			s += fmt.Sprint(node.Kids[:cap(node.Kids)])
		}
		return s
	}
	before := state()
	for i, g := range goals {
		given := append(samples.PlacesOfType(x), samples.PlacesOfGoal(g)...)
		for name, places := range map[string][]any{
			"Lines":  append(placesOfLines(lines.Lines(x, g)), placesOfLines(lines.Lines(x, g))...),
			"Normal": append(samples.PlacesOfGoal(lines.Normal(g)), samples.PlacesOfGoal(lines.Normal(g))...),
		} {
			if len(places) == 0 && (name == "Lines" || len(g.Pos)+len(g.Neg) > 0) {
				t.Error(name, i, "has no result")
			}
			if samples.Shared(given, places) {
				t.Error(name, i, "shares memory")
			}
		}
		lines.InGoal(v, x, g)
		lines.InLine(v, x, line)
		if state() != before {
			t.Fatal(i, "an argument is changed")
		}
	}
}

// R3: nil and empty slices are the same.
func TestEmptySlices(t *testing.T) {
	x := zoo(t)
	empty := api.Goal{Pos: []int{}, Neg: []int{}}
	if show(lines.Normal(empty)) != show(lines.Normal(api.Goal{})) || show(lines.Lines(x, empty)) != show(lines.Lines(x, api.Goal{})) {
		t.Error("goal")
	}
	one := label(value.Int(1), "A")
	if !lines.InGoal(one, x, empty) {
		t.Error("InGoal")
	}
	l := api.Line{Kind: api.VInt, Ints: []api.Range{{Lo: 1, Hi: 1}}, Names: api.Names{List: []string{}}, Pos: []int{}, Neg: []int{}, Vars: []string{}, NotVars: []string{}}
	if !lines.InLine(one, x, l) {
		t.Error("InLine")
	}
	l.Ints = []api.Range{}
	if lines.InLine(one, x, l) {
		t.Error("InLine without Ints")
	}
}

// R5: the same arguments give the same lines.
func TestRepeated(t *testing.T) {
	x := zoo(t)
	for _, g := range []api.Goal{{}, goal([]int{42, 56}, []int{53}), goal(nil, []int{42, 53, 56}), goal([]int{44, 37}, []int{16, 36})} {
		first := show(lines.Lines(x, g))
		for range 20 {
			if show(lines.Lines(x, g)) != first {
				t.Fatal(g)
			}
		}
	}
}
