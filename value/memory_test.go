package value_test

import (
	"slices"
	"testing"

	"semtype/api"
	"semtype/value"
)

// places returns the addresses of all elements of the slices of v, with those of the room behind them.
func places(v api.Value) []any {
	l := placesOf(v.Kids, places)
	l = append(l, placesOf(v.Keys, nil)...)
	l = append(l, placesOf(v.Labels, nil)...)
	return append(l, placesOf(v.Entries, func(e api.Entry) []any { return append(placesOf(e.Args, places), places(e.Result)...) })...)
}

func placesOf[T any](l []T, inner func(T) []any) []any {
	var all []any
	room := l[:cap(l)]
	for i := range room {
		all = append(all, &room[i])
		if inner != nil {
			all = append(all, inner(room[i])...)
		}
	}
	return all
}

// roomy returns a value with contents in all fields, and room behind the elements of its slices.
func roomy() api.Value {
	room := func(l ...api.Value) []api.Value { return append(make([]api.Value, 0, 7), l...) }
	leaf := api.Value{Kind: api.VString, Text: "b", Labels: append(make([]string, 0, 5), "B", "A")}
	m := api.Value{Kind: api.VMap, Keys: append(make([]api.Key, 0, 5), stringKey("b"), atomKey("a")), Kids: room(leaf, empty())}
	f := api.Value{Kind: api.VFun, Int: 1, Labels: append(make([]string, 0, 3), "F"), Entries: append(make([]api.Entry, 0, 6),
		api.Entry{Args: room(m), Result: leaf}, api.Entry{Args: room(leaf), Fails: true}, api.Entry{Args: room(leaf), Result: m}, api.Entry{Args: room(leaf), Fails: true})}
	dark := api.Value{Kind: api.VFun, Entries: []api.Entry{{Fails: true, Result: m}}}
	return api.Value{Kind: api.VCons, Kids: room(f, api.Value{Kind: api.VCons, Kids: room(dark, api.Value{Kind: api.VNil, Labels: leaf.Labels})}), Labels: append(make([]string, 0, 4), "Z", "Y")}
}

// wide returns v with the room behind the elements of its slices as elements.
func wide(v api.Value) api.Value {
	v.Keys, v.Labels = v.Keys[:cap(v.Keys)], v.Labels[:cap(v.Labels)]
	v.Kids = wideAll(v.Kids)
	v.Entries = slices.Clone(v.Entries[:cap(v.Entries)])
	for i, e := range v.Entries {
		v.Entries[i] = api.Entry{Args: wideAll(e.Args), Fails: e.Fails, Result: wide(e.Result)}
	}
	return v
}

func wideAll(l []api.Value) []api.Value {
	var result []api.Value
	for _, v := range l[:cap(l)] {
		result = append(result, wide(v))
	}
	return result
}

// calls returns a call of each function; the last one calls those that return numbers.
func calls(v api.Value, keys []api.Key, names []string, list []api.Value, entries []api.Entry) []func() api.Value {
	return []func() api.Value{
		func() api.Value { return value.Tuple(list...) }, func() api.Value { return value.List(list...) }, func() api.Value { return value.Cons(v, v) },
		func() api.Value { m, _ := value.Map(keys, list); return m }, func() api.Value { f, _ := value.Function(1, entries...); return f },
		func() api.Value { return value.WithLabels(v, names...) }, func() api.Value { return value.Unlabel(v) },
		func() api.Value { l, _ := value.Elements(v); return api.Value{Kids: l} },
		func() api.Value {
			value.Validate(v)
			return api.Value{Int: int64(value.Compare(v, v) + value.Nodes(v) + value.Height(v))}
		},
	}
}

// R2: arguments are not changed, and results share no memory with them, with other results or within themselves.
func TestMemory(t *testing.T) {
	v := roomy()
	keys, names := append(make([]api.Key, 0, 6), stringKey("b"), atomKey("b"), stringKey("a")), append(make([]string, 0, 6), "B", "A", "B")
	list := append(make([]api.Value, 0, 8), v, v.Kids[0], v)
	entries := append(make([]api.Entry, 0, 9), v.Kids[0].Entries...)
	all := api.Value{Kids: append(list, v), Keys: keys, Labels: names, Entries: entries}
	before, given := show(wide(all)), map[any]bool{}
	for _, place := range places(all) {
		given[place] = true
	}
	for i, call := range calls(v, keys, names, list, entries) {
		first, second := call(), call()
		own := append(places(first), places(second)...)
		taken := map[any]bool{}
		for _, place := range own {
			if given[place] || taken[place] {
				t.Fatalf("call %d: shared memory", i)
			}
			taken[place] = true
		}
		if show(first) != show(second) || len(own) == 0 && i < 8 {
			t.Errorf("call %d: %s and %s", i, show(first), show(second))
		}
		if show(wide(all)) != before {
			t.Fatalf("call %d changes an argument", i)
		}
	}
}
