package value_test

import (
	"cmp"
	"slices"
	"testing"

	"semtype/api"
	"semtype/value"
)

// ascendingValues lists values in ascending order. Each place shows a field that decides before all fields that come later.
func ascendingValues() []api.Value {
	one, two, a, b := integer(1), integer(2), atomKey("a"), stringKey("a")
	l := []api.Value{
		{Kind: -1, Int: 9, Text: "z", Labels: []string{"Z"}},
		{}, {Labels: []string{"A"}}, {Text: "a"}, {Int: 1},
		integer(-1<<63, "A"), integer(-1), integer(0), integer(0, ""), integer(0, "A"), integer(0, "B"), integer(0, "Ba"), integer(0, "b"), integer(0, "A", "A"), integer(0, "A", "B"), integer(0, "B", "A"), integer(0, "A", "A", "A"),
		{Kind: api.VInt, Entries: []api.Entry{{}}}, {Kind: api.VInt, Kids: []api.Value{{}}}, {Kind: api.VInt, Keys: []api.Key{{}}}, {Kind: api.VInt, Text: "a"}, one, integer(1<<63 - 1),
		{Kind: api.VString}, {Kind: api.VString, Text: "\x00"}, {Kind: api.VString, Text: "B"}, {Kind: api.VString, Text: "a"}, {Kind: api.VString, Text: "aa"}, {Kind: api.VString, Text: "b"}, {Kind: api.VString, Text: "\xff"}, {Kind: api.VString, Int: 1},
		{Kind: api.VAtom, Text: "a"}, {Kind: api.VAtom, Text: "b"},
		{Kind: api.VPid}, {Kind: api.VPid, Int: 1}, {Kind: api.VNil}, {Kind: api.VNil, Labels: []string{"A"}},
		node(api.VTuple), labelled(node(api.VTuple), "A"), node(api.VTuple, one), labelled(node(api.VTuple, one), "A"), node(api.VTuple, integer(1, "A")), node(api.VTuple, two), node(api.VTuple, empty()), node(api.VTuple, node(api.VTuple, two)), node(api.VTuple, one, one), node(api.VTuple, one, two), node(api.VTuple, two, one), node(api.VTuple, one, one, one),
		node(api.VCons, two), pair(one, empty()), pair(one, pair(one, empty())), pair(two, empty()),
		record(nil), record(nil, one), labelled(record(nil, one), "A"), record([]api.Key{a}), record([]api.Key{a}, one), record([]api.Key{a}, two), record([]api.Key{a}, one, one), record([]api.Key{atomKey("b")}, one), record([]api.Key{b}), record([]api.Key{{Kind: 5}}),
		record([]api.Key{a, a}, two), record([]api.Key{a, b}, one, one), record([]api.Key{a, b}, one, two), record([]api.Key{a, b}, two, one), record([]api.Key{b, a}, one),
	}
	return append(l, ascendingFunctions()...)
}

func ascendingFunctions() []api.Value {
	one, two := integer(1), integer(2)
	failsWith := func(result api.Value, args ...api.Value) api.Entry {
		return api.Entry{Args: args, Fails: true, Result: result}
	}
	return []api.Value{
		fun(-1, maps(two)), fun(0), labelled(fun(0), "A"), fun(0, fails()), labelled(fun(0, fails()), "A"), labelled(fun(0, fails()), "B"), fun(0, failsWith(one)), fun(0, failsWith(two)),
		fun(0, maps(api.Value{})), fun(0, maps(one)), fun(0, maps(integer(1, "A"))), fun(0, maps(two)), fun(0, maps(pair(one, empty()))), fun(0, fails(one)), fun(0, maps(one, one)), fun(0, fails(two)), fun(0, maps(one, one, one)),
		fun(0, fails(), fails()), fun(0, fails(), maps(one)), fun(0, maps(one), fails()), fun(0, maps(one), maps(one)), fun(0, maps(one), maps(two)), fun(0, maps(two), maps(one)), fun(0, fails(), fails(), fails()),
		fun(1), fun(1, fails(one)), fun(1, maps(one, one)), fun(1, maps(two, one)), fun(1, maps(one, integer(1, "A"))), fun(1, fails(two)), fun(1, maps(one, two)),
		fun(2, fails(two, two)), fun(2, maps(one, two, two)), fun(1<<63-1, fails()),
		{Kind: api.VFun + 1}, {Kind: 1 << 62},
	}
}

// P4.2: all pairs of these values.
func TestCompareList(t *testing.T) {
	l := ascendingValues()
	for i, a := range l {
		for k, b := range l {
			if got, want := value.Compare(a, b), cmp.Compare(i, k); got != want || value.Equal(a, b) != (want == 0) {
				t.Errorf("Compare(%s, %s) = %d, Equal %v", show(a), show(b), got, value.Equal(a, b))
			}
		}
	}
}

// oneField returns a value with contents in all fields, but for this change.
func oneField(change func(*api.Value)) api.Value {
	one := integer(1, "A")
	v := api.Value{Kind: api.VMap, Int: 1, Text: "b", Labels: []string{"A"},
		Kids: []api.Value{one, one}, Keys: []api.Key{atomKey("a"), stringKey("b")}, Entries: []api.Entry{maps(one, one, one), maps(one, one)}}
	change(&v)
	return v
}

// P4.2: each field of the order counts, also the last one, at the root and deep inside of other values.
func TestOneFieldDiffers(t *testing.T) {
	changes := []func(*api.Value){
		func(v *api.Value) { v.Kind++ }, func(v *api.Value) { v.Int++ }, func(v *api.Value) { v.Text = "ba" },
		func(v *api.Value) { v.Keys = append(v.Keys, api.Key{}) }, func(v *api.Value) { v.Keys[1].Kind++ }, func(v *api.Value) { v.Keys[1].Text = "c" },
		func(v *api.Value) { v.Kids = append(v.Kids, api.Value{}) }, func(v *api.Value) { v.Kids[1].Int++ }, func(v *api.Value) { v.Kids[1].Labels = []string{"B"} },
		func(v *api.Value) { v.Entries = append(v.Entries, api.Entry{}) }, func(v *api.Value) { v.Entries[1].Args = append(v.Entries[1].Args, api.Value{}) },
		func(v *api.Value) { v.Entries[0].Args = []api.Value{integer(1, "A"), integer(2)} }, func(v *api.Value) { v.Entries[1].Result.Text = "a" },
		func(v *api.Value) { v.Labels = append(v.Labels, "") }, func(v *api.Value) { v.Labels[0] = "Aa" },
	}
	same, smaller := oneField(func(*api.Value) {}), oneField(func(v *api.Value) { v.Entries[1].Fails = true })
	values := []api.Value{smaller}
	for _, change := range changes {
		values = append(values, oneField(change))
	}
	for i, v := range values {
		want := cmp.Compare(i, 0)*2 - 1
		for _, wrap := range wraps() {
			a, b := wrap(v), wrap(same)
			if value.Compare(a, b) != want || value.Compare(b, a) != -want || value.Equal(a, b) {
				t.Errorf("change %d: %s and %s: %d, %d", i, show(a), show(b), value.Compare(a, b), value.Compare(b, a))
			}
			if copied := wrap(oneField(func(*api.Value) {})); value.Compare(b, copied) != 0 || !value.Equal(b, copied) {
				t.Errorf("%s is not equal to itself", show(b))
			}
		}
	}
}

// wraps are the places in which a value may stand.
func wraps() []func(api.Value) api.Value {
	one := integer(1)
	return []func(api.Value) api.Value{
		func(v api.Value) api.Value { return v },
		func(v api.Value) api.Value { return node(api.VTuple, one, v) },
		func(v api.Value) api.Value { return record([]api.Key{atomKey("a")}, v) },
		func(v api.Value) api.Value { return pair(one, pair(v, empty())) },
		func(v api.Value) api.Value { return fun(2, maps(one, one, v)) },
		func(v api.Value) api.Value { return fun(1, fails(one), maps(v, one)) },
		func(v api.Value) api.Value { return fun(1, fails(node(api.VTuple, v))) },
		func(v api.Value) api.Value { return fun(0, maps(fun(0, maps(v)))) },
	}
}

// P4.2: nil and empty lists are the same (R3).
func TestEmptyListsAreEqual(t *testing.T) {
	bare := api.Value{Kind: api.VFun, Entries: []api.Entry{{Fails: true}}}
	full := api.Value{Kind: api.VFun, Kids: []api.Value{}, Keys: []api.Key{}, Labels: []string{}, Entries: []api.Entry{{Fails: true, Args: []api.Value{},
		Result: api.Value{Kids: []api.Value{}, Keys: []api.Key{}, Entries: []api.Entry{}, Labels: []string{}}}}}
	if value.Compare(bare, full) != 0 || value.Compare(full, bare) != 0 || !value.Equal(bare, full) || value.Validate(full) != api.OK {
		t.Error("nil and empty lists differ")
	}
}

// P4.2: the order sorts values the same way from any arrangement.
func TestCompareSorts(t *testing.T) {
	want := ascendingValues()
	mixed := slices.Clone(want)
	slices.Reverse(mixed)
	mixed = slices.Concat(mixed[len(mixed)/3:], mixed[:len(mixed)/3])
	slices.SortFunc(mixed, value.Compare)
	for i := range mixed {
		check(t, "sorted", mixed[i], want[i])
	}
}
