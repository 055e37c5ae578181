package record_test

import (
	"fmt"
	"math"
	"math/rand"
	"slices"
	"testing"

	"semtype/api"
	"semtype/ident"
	"semtype/lines"
	"semtype/member"
	"semtype/samples"
	"semtype/typeexpr"
	"semtype/value"
)

const (
	least    = math.MinInt64
	greatest = math.MaxInt64

	absent  = api.KeyAbsent
	present = api.KeyPresent
	either  = api.KeyEither
)

var (
	graph    = samples.Graph
	kind     = samples.Node
	text     = samples.Text
	from     = samples.Range
	record   = samples.Record
	field    = samples.Field
	optional = samples.Optional
	dict     = samples.Dict
	key      = samples.Key
	label    = value.WithLabels
)

func show(x any) string { return fmt.Sprintf("%+v", x) }

func only(l ...int) []int { return l }

// part returns the goal with these indices in Pos and Neg.
func part(pos []int, neg ...int) api.Goal { return api.Goal{Pos: pos, Neg: neg} }

func keys(names ...string) (l []api.Key) {
	for _, name := range names {
		l = append(l, key(name))
	}
	return l
}

// at describes a key of a shape.
type at struct {
	name  string
	state int
	part  api.Goal
}

// shape returns the shape with these keys, and with these goals for all other atom keys and string keys.
func shape(atoms, strings api.Goal, l ...at) api.Shape {
	s := api.Shape{Rest: [2]api.Goal{atoms, strings}}
	for _, a := range l {
		s.Keys, s.States, s.Parts = append(s.Keys, key(a.name)), append(s.States, a.state), append(s.Parts, a.part)
	}
	return s
}

// some returns s with an element of Some for each goal, of this kind.
func some(s api.Shape, kind int, goals ...api.Goal) api.Shape {
	s.Some = slices.Clone(s.Some)
	for _, g := range goals {
		s.Some = append(s.Some, api.SomeKey{Kind: kind, Goal: g})
	}
	return s
}

// goalsOf returns all goals of the shape.
func goalsOf(s api.Shape) []api.Goal {
	l := slices.Concat(s.Parts, s.Rest[:])
	for _, e := range s.Some {
		l = append(l, e.Goal)
	}
	return l
}

// mustBeWellFormed keeps a mistake in a test from passing as a type without members.
func mustBeWellFormed(t *testing.T, x api.Type) {
	t.Helper()
	if code := typeexpr.WellFormed(x); code != api.OK {
		t.Fatalf("%v: %+v", code, x)
	}
}

// everyMap returns all maps with some of these keys, each with one of the values.
func everyMap(names []string, values ...api.Value) []api.Value {
	l := []api.Value{dict()}
	for _, name := range names {
		for _, m := range l {
			for _, v := range values {
				l = append(l, with(m, name, v))
			}
		}
	}
	return l
}

// with returns the map with a further key.
func with(m api.Value, name string, v api.Value) api.Value {
	w, _ := value.Map(append(slices.Clone(m.Keys), key(name)), append(slices.Clone(m.Kids), v))
	return w
}

// randomMaps returns valid maps, with and without labels, over keys that the fields of random types have and over others.
func randomMaps(r *rand.Rand, number int) (l []api.Value) {
	parts := slices.DeleteFunc(samples.Values(), func(v api.Value) bool { return value.Height(v) > 3 })
	for range number {
		m := dict()
		for _, name := range []string{"a", "b", "c", "d", "\"", "\"a", "\"b"} {
			if r.Intn(5) > 1 {
				m = with(m, name, parts[r.Intn(len(parts))])
			}
		}
		l = append(l, label(m, [][]string{nil, {"A"}, {"B"}, {"A", "B"}}[r.Intn(4)]...))
	}
	return l
}

// model decides with a node for each word of P11.1, by membership. The keys of the shape have to be valid, and each of them there once.
type model struct{ nodes []api.TypeNode }

func (m *model) add(node api.TypeNode) int {
	m.nodes = append(m.nodes, node)
	return len(m.nodes) - 1
}

func (m *model) goal(g api.Goal) int {
	all := kind(api.TInter, m.add(kind(api.TAny)))
	all.Kids = append(all.Kids, g.Pos...)
	for _, n := range g.Neg {
		all.Kids = append(all.Kids, m.add(kind(api.TNot, n)))
	}
	return m.add(all)
}

// inShape reports whether the valid map is of the shape, whose goals have nodes.
func inShape(v api.Value, x api.Type, s api.Shape) bool {
	m := model{slices.Clone(x.Nodes)}
	var listed, free []api.Field
	whatever := m.add(kind(api.TAny))
	for i, k := range s.Keys {
		f := api.Field{Key: k, Node: m.goal(s.Parts[i]), Optional: s.States[i] != present}
		if s.States[i] == absent {
			f.Node = m.add(kind(api.TNone))
		}
		listed, free = append(listed, f), append(free, api.Field{Key: k, Node: whatever, Optional: true})
	}
	byKey := func(a, b api.Field) int { return ident.CompareKeys(a.Key, b.Key) }
	slices.SortFunc(listed, byKey)
	slices.SortFunc(free, byKey)
	all := kind(api.TInter, m.add(record(m.goal(s.Rest[0]), m.goal(s.Rest[1]), listed...)))
	for _, e := range s.Some {
		lacking := record(whatever, whatever, free...)
		lacking.Rest[e.Kind] = m.add(kind(api.TNot, m.goal(e.Goal)))
		all.Kids = append(all.Kids, m.add(kind(api.TNot, m.add(lacking))))
	}
	return member.MemberOf(v, api.Type{Nodes: m.nodes, Root: x.Root}, m.add(all))
}

// fits reports whether the labels of the map contain Vars and none of NotVars.
func fits(v api.Value, l api.Line) bool {
	isLabel := func(name string) bool { return slices.Contains(v.Labels, name) }
	isMissing := func(name string) bool { return !isLabel(name) }
	return v.Kind == api.VMap && !slices.ContainsFunc(l.Vars, isMissing) && !slices.ContainsFunc(l.NotVars, isLabel)
}

// isNormal reports whether the goal is in normal form, over nodes of x.
func isNormal(x api.Type, g api.Goal) bool {
	isOther := func(n int) bool { return n < 0 || n >= len(x.Nodes) }
	return show(lines.Normal(g)) == show(g) && !slices.ContainsFunc(g.Pos, isOther) && !slices.ContainsFunc(g.Neg, isOther)
}
