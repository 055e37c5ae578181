package record_test

import (
	"math/rand"
	"slices"
	"strings"
	"testing"

	"semtype/api"
	"semtype/lines"
	rec "semtype/record"
	"semtype/samples"
	"semtype/value"
)

// leaves has the nodes of the tests of InShape.
func leaves(t *testing.T) api.Type {
	t.Helper()
	x := graph(kind(api.TAny), kind(api.TNone), from(0, 9), kind(api.TAtoms), text(api.TVar, "A"), from(5, 5), kind(api.TCons, 2, 7), kind(api.TNil))
	mustBeWellFormed(t, x)
	return x
}

var (
	all, none      = part(only(0)), part(only(1))
	digit, atom    = part(only(2)), part(only(3))
	labelled, not5 = part(only(4)), part(only(2), 5)
)

// P11.1: each word of it, for maps with and without the keys.
func TestInShape(t *testing.T) {
	x := leaves(t)
	one, a := value.Int(1), value.Atom("a")
	long := "\"" + strings.Repeat("x", api.MaxText+1)
	list := api.Goal{Lists: true}
	free := part(nil)
	for i, c := range []struct {
		s       api.Shape
		in, out []api.Value
	}{
		{api.Shape{}, []api.Value{dict(), dict("a", one), dict("\"a", a, "b", one), label(dict(), "A")}, nil},
		{shape(free, free, at{"a", absent, api.Goal{}}), []api.Value{dict(), dict("b", one), dict("\"a", one)}, []api.Value{dict("a", one), dict("a", a, "b", one)}},
		{shape(free, free, at{"a", absent, digit}), []api.Value{dict()}, []api.Value{dict("a", one)}},
		{shape(free, free, at{"a", present, digit}), []api.Value{dict("a", one), dict("a", one, "b", a)}, []api.Value{dict(), dict("a", a), dict("b", one), dict("\"a", one)}},
		{shape(free, free, at{"a", either, digit}), []api.Value{dict(), dict("a", one), dict("b", a, "\"a", a)}, []api.Value{dict("a", a), dict("a", a, "b", one)}},
		{shape(free, free, at{"\"a", present, not5}), []api.Value{dict("\"a", one), dict("\"a", one, "a", a)}, []api.Value{dict("a", one), dict("\"a", value.Int(5)), dict("\"a", a)}},
		{shape(free, free, at{"a", present, none}), nil, []api.Value{dict(), dict("a", one)}},
		{shape(free, free, at{"a", either, none}), []api.Value{dict(), dict("b", one)}, []api.Value{dict("a", one)}},
		{shape(free, free, at{"a", 3, all}), nil, []api.Value{dict(), dict("a", one)}},
		{shape(free, free, at{"a", -1, all}), nil, []api.Value{dict(), dict("a", one)}},
		{shape(free, free, at{"a", either, all}, at{"b", greatest, all}), nil, []api.Value{dict(), dict("a", one), dict("b", one)}},
		{shape(digit, free), []api.Value{dict(), dict("a", one), dict("\"a", a)}, []api.Value{dict("a", a), dict("a", one, "b", a)}},
		{shape(free, digit), []api.Value{dict(), dict("\"a", one), dict("a", a)}, []api.Value{dict("\"a", a), dict("\"a", one, "\"", a)}},
		{shape(none, none), []api.Value{dict()}, []api.Value{dict("a", one), dict("\"", one)}},
		{shape(none, none, at{"a", either, atom}, at{"\"", present, digit}), []api.Value{dict("\"", one), dict("\"", one, "a", a)}, []api.Value{dict(), dict("\"", one, "a", one), dict("\"", one, "b", a), dict("\"", one, "\"a", one)}},
		{shape(digit, atom, at{"a", either, atom}), []api.Value{dict("a", a, "b", one, "\"a", a), dict()}, []api.Value{dict("a", one), dict("b", a), dict("\"a", one)}},
		{shape(labelled, list), []api.Value{dict("a", label(one, "A")), dict("\"a", value.Nil()), label(dict("\"b", value.List(one)), "B")}, []api.Value{dict("a", one), label(dict("a", one), "A"), dict("\"a", value.Tuple())}},

		{some(shape(free, free), 0, digit), []api.Value{dict("a", one), dict("a", a, "b", one), dict("a", one, "\"a", a)}, []api.Value{dict(), dict("a", a), dict("\"a", one)}},
		{some(shape(free, free), 1, digit), []api.Value{dict("\"a", one), dict("\"", a, "\"a", one)}, []api.Value{dict(), dict("\"a", a), dict("a", one)}},
		{some(shape(free, free), 0, digit, not5), []api.Value{dict("a", one), dict("a", value.Int(5), "b", one)}, []api.Value{dict("a", value.Int(5)), dict("a", a)}},
		{some(shape(free, free), 0, digit, atom), []api.Value{dict("a", one, "b", a), dict("a", a, "c", a, "d", one)}, []api.Value{dict("a", one), dict("a", a, "b", a), dict("a", one, "\"a", a)}},
		{some(shape(free, free), 0, digit, digit, all), []api.Value{dict("a", one)}, []api.Value{dict("a", a)}},
		{some(some(shape(free, free), 0, digit), 1, digit), []api.Value{dict("a", one, "\"a", one)}, []api.Value{dict("a", one), dict("\"a", one), dict("a", one, "b", one)}},
		{some(some(shape(free, free), 1, digit, atom), 0, not5), []api.Value{dict("a", one, "\"a", one, "\"b", a)}, []api.Value{dict("a", one, "\"a", one, "b", a), dict("\"c", one, "\"a", one, "\"b", a)}},
		{some(shape(free, free, at{"a", either, all}), 0, digit), []api.Value{dict("b", one), dict("a", one, "b", one)}, []api.Value{dict("a", one), dict("a", one, "b", a)}},
		{some(shape(free, free, at{"a", present, digit}, at{"b", either, digit}), 0, digit), []api.Value{dict("a", one, "c", one)}, []api.Value{dict("a", one, "b", one), dict("c", one)}},
		{some(shape(atom, free), 0, digit), nil, []api.Value{dict("a", one), dict("a", one, "b", a)}},
		{some(shape(free, free), 0, free), []api.Value{dict("a", a)}, []api.Value{dict(), dict("\"a", a)}},
		{some(shape(free, free), 2, all), nil, []api.Value{dict("a", one, "\"a", one)}},
		{some(shape(free, free), -1, all), nil, []api.Value{dict("a", one, "\"a", one)}},

		{shape(none, none, at{"b", present, digit}, at{"a", either, atom}), []api.Value{dict("b", one), dict("a", a, "b", one)}, []api.Value{dict("a", a), dict("a", one, "b", one), dict("b", one, "c", one)}},
		{shape(none, none, at{"a", either, digit}, at{"a", present, not5}), []api.Value{dict("a", one)}, []api.Value{dict(), dict("a", value.Int(5)), dict("a", a)}},
		{shape(free, free, at{"a", absent, digit}, at{"a", present, digit}), nil, []api.Value{dict(), dict("a", one)}},
		{shape(free, free, at{"A", absent, api.Goal{}}, at{long, either, none}), []api.Value{dict(), dict("a", one)}, nil},
		{shape(free, free, at{"A", present, all}), nil, []api.Value{dict(), dict("a", one)}},
	} {
		for n, v := range slices.Concat(c.in, c.out) {
			if is := n < len(c.in); rec.InShape(v, x, c.s) != is {
				t.Errorf("%d: %+v in %+v should be %v", i, v, c.s, is)
			}
		}
	}
}

// P11.1: values of other kinds are in no shape.
func TestOtherValues(t *testing.T) {
	x := leaves(t)
	for _, v := range samples.Values() {
		for _, s := range []api.Shape{{}, shape(all, all), shape(part(nil), part(nil), at{"a", either, all}), shape(part(nil), part(nil), at{"a", absent, api.Goal{}}, at{"b", absent, api.Goal{}})} {
			is := v.Kind == api.VMap && (len(s.Keys) < 2 || !slices.Contains(v.Keys, key("a")) && !slices.Contains(v.Keys, key("b")))
			if rec.InShape(v, x, s) != is {
				t.Error(v, s)
			}
		}
	}
}

// P11.1: nothing is in a shape if the value is not valid, the type is not well-formed, the lists have different lengths or a goal has an index without a node.
func TestInvalidShapes(t *testing.T) {
	x := leaves(t)
	for _, v := range samples.InvalidValues() {
		for _, s := range []api.Shape{{}, shape(all, all, at{"a", either, all}), shape(part(nil), part(nil), at{"a", present, part(nil)})} {
			if rec.InShape(v, x, s) || rec.InShape(dict("a", v), x, s) {
				t.Error(v, s)
			}
		}
	}
	for _, x := range samples.InvalidTypes() {
		for _, v := range []api.Value{dict(), dict("a", value.Int(0))} {
			if rec.InShape(v, x, api.Shape{}) || rec.InShape(v, x, shape(part(nil), part(nil), at{"a", either, part(only(0))})) {
				t.Error(v, x)
			}
		}
	}
	good := some(shape(all, all, at{"a", either, all}, at{"b", absent, api.Goal{}}), 0, all)
	v := dict("a", value.Int(0), "c", value.Int(0))
	if !rec.InShape(v, x, good) {
		t.Fatal(good)
	}
	for _, n := range []int{-1, len(x.Nodes), len(x.Nodes) + 1, least, greatest} {
		for place := range goalsOf(good) {
			for _, bad := range []api.Goal{part(only(n)), part(nil, n), part(only(0, n)), part(only(n), 1)} {
				s := some(shape(all, all, at{"a", either, all}, at{"b", absent, api.Goal{}}), 0, all)
				switch place {
				case 0, 1:
					s.Parts[place] = bad
				case 2, 3:
					s.Rest[place-2] = bad
				default:
					s.Some[0].Goal = bad
				}
				if rec.InShape(v, x, s) {
					t.Error(s)
				}
			}
		}
	}
	for _, s := range uneven(good) {
		if rec.InShape(v, x, s) || rec.InShape(dict("c", value.Int(0)), x, s) {
			t.Error(s)
		}
	}
}

// uneven returns shapes that are s but for the length of one list of Keys, States and Parts.
func uneven(s api.Shape) (l []api.Shape) {
	for i := range 3 {
		longer, shorter, without := s, s, s
		last := len(s.Keys) - 1
		switch i {
		case 0:
			longer.Keys, shorter.Keys, without.Keys = append(slices.Clone(s.Keys), key("z")), s.Keys[:last], nil
		case 1:
			longer.States, shorter.States, without.States = append(slices.Clone(s.States), either), s.States[:last], nil
		case 2:
			longer.Parts, shorter.Parts, without.Parts = append(slices.Clone(s.Parts), api.Goal{}), s.Parts[:last], nil
		}
		l = append(l, longer, shorter, without)
	}
	return l
}

// P11.1: all maps with a few keys, and shapes with each state and a few goals.
func TestAllMaps(t *testing.T) {
	x := leaves(t)
	values := everyMap([]string{"a", "b", "c", "\"", "\"a"}, value.Int(1), value.Atom("a"))
	r := rand.New(rand.NewSource(1))
	goals := []api.Goal{all, digit, atom, part(nil, 2), part(nil), none}
	goal := func() api.Goal { return goals[r.Intn(len(goals))] }
	found := 0
	for range 120 {
		s := shape(goal(), goal())
		for _, name := range []string{"a", "b", "\"a"} {
			if r.Intn(2) == 0 {
				s = shape(s.Rest[0], s.Rest[1], append(listed(s), at{name, r.Intn(3), goal()})...)
			}
		}
		for range r.Intn(4) {
			s = some(s, r.Intn(2), goals[r.Intn(5)])
		}
		for _, v := range values {
			is := inShape(v, x, s)
			if is {
				found++
			}
			if rec.InShape(v, x, s) != is {
				t.Fatalf("%+v in %+v should be %v", v, s, is)
			}
		}
	}
	if found < 500 {
		t.Error(found)
	}
}

func listed(s api.Shape) (l []at) {
	for i, k := range s.Keys {
		l = append(l, at{k.Text, s.States[i], s.Parts[i]})
		if k.Kind == api.KeyString {
			l[i].name = "\"" + k.Text
		}
	}
	return l
}

// P11.1: random types, shapes and maps.
func TestRandomShapes(t *testing.T) {
	r := rand.New(rand.NewSource(2))
	values := randomMaps(r, 300)
	found := map[bool]int{}
	for range 1500 {
		x := samples.RandomType(r, 1+r.Intn(8))
		goal := func() (g api.Goal) {
			for range r.Intn(2) {
				g.Pos = append(g.Pos, r.Intn(len(x.Nodes)))
			}
			for range r.Intn(2) {
				g.Neg = append(g.Neg, r.Intn(len(x.Nodes)))
			}
			return g
		}
		s := shape(goal(), goal())
		for _, name := range []string{"c", "a", "\"a", "\"c"} {
			if r.Intn(2) == 0 {
				s = shape(s.Rest[0], s.Rest[1], append(listed(s), at{name, r.Intn(3), goal()})...)
			}
		}
		for range r.Intn(3) {
			s = some(s, r.Intn(2), goal())
		}
		for range 8 {
			v := values[r.Intn(len(values))]
			is := inShape(v, x, s)
			if found[is]++; rec.InShape(v, x, s) != is {
				t.Fatalf("%+v in %+v of %+v should be %v", v, s, x, is)
			}
		}
	}
	if found[true] < 500 || found[false] < 500 {
		t.Error(found)
	}
}

// Goals may ask for lists, which no node of the type needs to say.
func TestLists(t *testing.T) {
	x := leaves(t)
	list := api.Goal{Neg: only(7), Lists: true}
	s := some(shape(list, list, at{"a", present, list}), 1, list)
	full, empty := value.List(value.Int(1)), value.Nil()
	for _, v := range everyMap([]string{"a", "b", "\"a"}, full, empty, value.Tuple()) {
		is := len(v.Keys) >= 2 && v.Keys[0] == key("a") && v.Keys[len(v.Keys)-1] == key("\"a")
		for _, w := range v.Kids {
			is = is && lines.InGoal(w, x, list)
		}
		if rec.InShape(v, x, s) != is {
			t.Error(v, is)
		}
	}
}
