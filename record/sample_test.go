package record_test

import (
	"math/rand"
	"slices"
	"strings"
	"testing"

	"semtype/api"
	"semtype/lines"
	rec "semtype/record"
	"semtype/samples"
	"semtype/value"
)

// P11.3: the parts of the keys that are present, and further keys in the order of Some.
func TestSample(t *testing.T) {
	x := leaves(t)
	v := func(n ...int64) (l []api.Value) {
		for _, i := range n {
			l = append(l, value.Int(i))
		}
		return l
	}
	free := part(nil)
	three := shape(free, free, at{"a", present, all}, at{"b", absent, api.Goal{}}, at{"c", either, all})
	for i, c := range []struct {
		s           api.Shape
		parts, some []api.Value
		wanted      api.Value
	}{
		{api.Shape{}, nil, nil, dict()},
		{three, v(1, 2, 3), nil, dict("a", value.Int(1))},
		{shape(free, free, at{"a", either, all}, at{"b", absent, all}), v(1, 2), nil, dict()},
		{shape(free, free, at{"a", 3, all}, at{"b", -1, all}, at{"c", least, all}), v(1, 2, 3), nil, dict()},
		{shape(free, free, at{"b", present, none}, at{"z9", present, free}, at{"\"", present, all}), v(1, 2, 3), nil, dict("b", value.Int(1), "z9", value.Int(2), "\"", value.Int(3))},
		{some(shape(free, free), 0, free), nil, v(1), dict("a", value.Int(1))},
		{some(shape(free, free), 1, free), nil, v(1), dict("\"", value.Int(1))},
		{some(shape(free, free), 0, free, free, none), nil, v(3, 1, 2), dict("a", value.Int(3), "b", value.Int(1), "c", value.Int(2))},
		{some(shape(free, free), 1, free, free), nil, v(3, 1), dict("\"", value.Int(3), "\"\x00", value.Int(1))},
		{some(some(some(shape(free, free), 0, free), 1, free), 0, free), nil, v(1, 2, 3), dict("a", value.Int(1), "\"", value.Int(2), "b", value.Int(3))},
		{some(three, 0, free, free), v(1, 2, 3), v(4, 5), dict("a", value.Int(1), "d", value.Int(4), "e", value.Int(5))},
		{some(shape(free, free, at{"b", either, all}, at{"d", present, all}), 0, free, free, free), v(1, 2), v(3, 4, 5), dict("d", value.Int(2), "a", value.Int(3), "c", value.Int(4), "e", value.Int(5))},
		{some(shape(free, free, at{"\"", absent, all}, at{"\"\x01", present, all}), 1, free, free), v(1, 2), v(3, 4), dict("\"\x01", value.Int(2), "\"\x00", value.Int(3), "\"\x02", value.Int(4))},
		{some(some(shape(free, free, at{"a", present, all}, at{"\"b", present, all}), 1, free), 0, free), v(1, 2), v(3, 4), dict("a", value.Int(1), "\"b", value.Int(2), "\"", value.Int(3), "b", value.Int(4))},
	} {
		m, code := rec.Sample(x, c.s, c.parts, c.some)
		if code != api.OK || !value.Equal(m, c.wanted) {
			t.Errorf("%d: %+v %v", i, m, code)
		}
	}
}

// P11.3 asks nothing of the type, the goals and the values, and takes the keys after 26 used ones as FreshKey does.
func TestUncheckedArguments(t *testing.T) {
	one, bad := value.Int(1), value.Atom("A")
	s := some(shape(part(only(99)), part(nil, -1), at{"a", present, part(only(-1))}), 0, part(only(99)))
	for _, x := range append(samples.InvalidTypes(), leaves(t)) {
		m, code := rec.Sample(x, s, []api.Value{label(bad, "a")}, []api.Value{one})
		if code != api.OK || !value.Equal(m, dict("a", label(bad, "a"), "b", one)) {
			t.Error(m, code)
		}
	}
	many := some(some(api.Shape{}, 0, make([]api.Goal, 27)...), 1, api.Goal{})
	m, code := rec.Sample(api.Type{}, many, nil, slices.Repeat([]api.Value{one}, 28))
	if last := len(m.Keys) - 1; code != api.OK || m.Keys[1] != key("a0") || m.Keys[last-1] != key("z") || m.Keys[last] != key("\"") || value.Validate(m) != api.OK {
		t.Error(m, code)
	}
}

// P11.3: lists that do not fit, and keys that no map has in this way.
func TestInvalidSamples(t *testing.T) {
	x := leaves(t)
	one := value.Int(1)
	ones := func(n int) []api.Value { return slices.Repeat([]api.Value{one}, n) }
	good := some(some(shape(all, all, at{"a", present, all}, at{"b", absent, api.Goal{}}), 0, all), 1, all)
	check := func(wanted api.Code, s api.Shape, parts, some []api.Value) {
		t.Helper()
		if m, code := rec.Sample(x, s, parts, some); code != wanted || code != api.OK && !value.Equal(m, api.Value{}) {
			t.Errorf("%+v %d %d: %+v %v", s, len(parts), len(some), m, code)
		}
	}
	for parts := range 4 {
		for some := range 4 {
			wanted := api.ErrInvalid
			if parts == 2 && some == 2 {
				wanted = api.OK
			}
			check(wanted, good, ones(parts), ones(some))
		}
	}
	for _, s := range uneven(good) {
		for parts := range 4 {
			check(api.ErrInvalid, s, ones(parts), ones(2))
		}
	}
	long := strings.Repeat("x", api.MaxName+1)
	for _, names := range [][]string{{"b", "a"}, {"a", "a"}, {"\"", "a"}, {"a", "c", "b"}, {"\"b", "\"a"}, {"A"}, {""}, {long}, {"a", long}, {"\"" + strings.Repeat("x", api.MaxText+1)}, {"a b"}} {
		for state := -1; state < 4; state++ {
			s := shape(all, all)
			for _, name := range names {
				s = shape(all, all, append(slices.Clone(listed(s)), at{name, state, all})...)
			}
			check(api.ErrInvalid, s, ones(len(names)), nil)
		}
	}
	for _, k := range []api.Key{{}, {Kind: 2, Text: "a"}, {Kind: -1, Text: "a"}, {Kind: greatest}} {
		check(api.ErrInvalid, api.Shape{Keys: []api.Key{k}, States: only(absent), Parts: make([]api.Goal, 1)}, ones(1), nil)
	}
	for _, k := range []int{-1, 2, least, greatest} {
		check(api.ErrInvalid, some(shape(all, all), k, all), nil, ones(1))
		check(api.ErrInvalid, some(some(shape(all, all), 1, all), k, all), nil, ones(2))
	}
}

// P11.3: if the values are in their goals, the map is of the shape, and so in the line that the shape is from.
func TestSamplesAreInShape(t *testing.T) {
	r := rand.New(rand.NewSource(5))
	values := slices.DeleteFunc(samples.Values(), func(v api.Value) bool { return value.Height(v) > 3 })
	x := places(t)
	lists := upToTwo()
	made, withSome := 0, 0
	for range 1500 {
		if r.Intn(2) == 0 {
			x = samples.RandomType(r, 3+r.Intn(14))
		} else {
			x = places(t)
		}
		l := api.Line{Kind: api.VMap}
		if maps := mapNodes(x); len(maps) > lastMap-firstMap {
			l.Pos, l.Neg = lists[r.Intn(len(lists))], lists[r.Intn(len(lists))]
		} else if len(maps) > 0 {
			l.Pos, l.Neg = only(maps[0]), maps[1:min(len(maps), 3)]
		}
		shapes, _ := rec.Shapes(x, l)
		for _, s := range shapes {
			parts, some, found := members(r, x, s, values)
			if !found {
				continue
			}
			m, code := rec.Sample(x, s, parts, some)
			if code != api.OK || !rec.InShape(m, x, s) || !lines.InLine(m, x, l) {
				t.Fatalf("%+v of %+v of %+v: %+v %v", s, l, x, m, code)
			}
			if made++; len(some) > 1 {
				withSome++
			}
		}
	}
	if made < 1000 || withSome < 70 {
		t.Error(made, withSome)
	}
}

// members returns values in the goals of the shape, if there are some for all of them.
func members(r *rand.Rand, x api.Type, s api.Shape, values []api.Value) (parts, some []api.Value, found bool) {
	member := func(goals ...api.Goal) api.Value {
		first := r.Intn(len(values))
		for i := range values {
			v := values[(first+i)%len(values)]
			if !slices.ContainsFunc(goals, func(g api.Goal) bool { return !lines.InGoal(v, x, g) }) {
				return v
			}
		}
		found = false
		return api.Value{}
	}
	found = true
	for i, state := range s.States {
		if state != present {
			parts = append(parts, api.Value{Kind: 77})
		} else if parts = append(parts, member(s.Parts[i])); !found {
			return nil, nil, false
		}
	}
	for _, e := range s.Some {
		if some = append(some, member(e.Goal, s.Rest[e.Kind])); !found {
			return nil, nil, false
		}
	}
	return parts, some, true
}

// The members of the goals of Some are members of Rest, too.
func TestGoalsOfSome(t *testing.T) {
	x := places(t)
	for _, pos := range upToTwo() {
		shapes, _ := rec.Shapes(x, api.Line{Kind: api.VMap, Pos: pos, Neg: only(8, 9, 20)})
		for _, s := range shapes {
			for _, e := range s.Some {
				if !slices.Equal(e.Goal.Pos, s.Rest[e.Kind].Pos) {
					t.Error(pos, s)
				}
			}
		}
	}
}
