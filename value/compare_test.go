package value_test

import (
	"cmp"
	"runtime/debug"
	"slices"
	"testing"

	"semtype/api"
	"semtype/value"
)

// ascendingValues lists values in ascending order. Each place shows a field that decides before all fields that come later.
func ascendingValues() []api.Value {
	one, two, a, b := integer(1), integer(2), atomKey("a"), stringKey("a")
	l := []api.Value{
		{Kind: -1, Int: 9, Text: "z", Labels: []string{"Z"}},
		{}, {Labels: []string{"A"}}, {Text: "a"}, {Int: 1},
		integer(-1<<63, "A"), integer(-1), integer(0), integer(0, ""), integer(0, "A"), integer(0, "B"), integer(0, "Ba"), integer(0, "b"), integer(0, "A", "A"), integer(0, "A", "B"), integer(0, "B", "A"), integer(0, "A", "A", "A"),
		{Kind: api.VInt, Entries: []api.Entry{{}}}, {Kind: api.VInt, Kids: []api.Value{{}}}, {Kind: api.VInt, Keys: []api.Key{{}}}, {Kind: api.VInt, Text: "a"}, one, integer(1<<63 - 1),
		{Kind: api.VString}, {Kind: api.VString, Text: "\x00"}, {Kind: api.VString, Text: "B"}, {Kind: api.VString, Text: "a"}, {Kind: api.VString, Text: "aa"}, {Kind: api.VString, Text: "b"}, {Kind: api.VString, Text: "\xff"}, {Kind: api.VString, Int: 1},
		{Kind: api.VAtom, Text: "a"}, {Kind: api.VAtom, Text: "b"},
		{Kind: api.VPid}, {Kind: api.VPid, Int: 1}, {Kind: api.VNil}, {Kind: api.VNil, Labels: []string{"A"}},
		node(api.VTuple), labelled(node(api.VTuple), "A"), node(api.VTuple, one), labelled(node(api.VTuple, one), "A"), node(api.VTuple, integer(1, "A")), node(api.VTuple, two), node(api.VTuple, empty()), node(api.VTuple, node(api.VTuple, two)), node(api.VTuple, one, one), node(api.VTuple, one, two), node(api.VTuple, two, one), node(api.VTuple, one, one, one),
		node(api.VCons, two), pair(one, empty()), pair(one, pair(one, empty())), pair(two, empty()),
		record(nil), record(nil, one), labelled(record(nil, one), "A"), record([]api.Key{a}), record([]api.Key{a}, one), record([]api.Key{a}, two), record([]api.Key{a}, one, one), record([]api.Key{atomKey("b")}, one), record([]api.Key{b}), record([]api.Key{{Kind: 5}}),
		record([]api.Key{a, a}, two), record([]api.Key{a, b}, one, one), record([]api.Key{a, b}, one, two), record([]api.Key{a, b}, two, one), record([]api.Key{b, a}, one),
	}
	return append(l, ascendingFunctions()...)
}

func ascendingFunctions() []api.Value {
	one, two := integer(1), integer(2)
	failsWith := func(result api.Value, args ...api.Value) api.Entry {
		return api.Entry{Args: args, Fails: true, Result: result}
	}
	return []api.Value{
		fun(-1, maps(two)), fun(0), labelled(fun(0), "A"), fun(0, fails()), labelled(fun(0, fails()), "A"), labelled(fun(0, fails()), "B"), fun(0, failsWith(one)), fun(0, failsWith(two)),
		fun(0, maps(api.Value{})), fun(0, maps(one)), fun(0, maps(integer(1, "A"))), fun(0, maps(two)), fun(0, maps(pair(one, empty()))), fun(0, fails(one)), fun(0, maps(one, one)), fun(0, fails(two)), fun(0, maps(one, one, one)),
		fun(0, fails(), fails()), fun(0, fails(), maps(one)), fun(0, maps(one), fails()), fun(0, maps(one), maps(one)), fun(0, maps(one), maps(two)), fun(0, maps(two), maps(one)), fun(0, fails(), fails(), fails()),
		fun(1), fun(1, fails(one)), fun(1, maps(one, one)), fun(1, maps(two, one)), fun(1, maps(one, integer(1, "A"))), fun(1, fails(two)), fun(1, maps(one, two)),
		fun(2, fails(two, two)), fun(2, maps(one, two, two)), fun(1<<63-1, fails()),
		{Kind: api.VFun + 1}, {Kind: 1 << 62},
	}
}

// P4.2: all pairs of these values.
func TestCompareList(t *testing.T) {
	l := ascendingValues()
	for i, a := range l {
		for k, b := range l {
			if got, want := value.Compare(a, b), cmp.Compare(i, k); got != want || value.Equal(a, b) != (want == 0) {
				t.Errorf("Compare(%s, %s) = %d, Equal %v", show(a), show(b), got, value.Equal(a, b))
			}
		}
	}
}

// oneField returns a value with contents in all fields, but for this change.
func oneField(change func(*api.Value)) api.Value {
	one := integer(1, "A")
	v := api.Value{Kind: api.VMap, Int: 1, Text: "b", Labels: []string{"A"},
		Kids: []api.Value{one, one}, Keys: []api.Key{atomKey("a"), stringKey("b")}, Entries: []api.Entry{maps(one, one, one), maps(one, one)}}
	change(&v)
	return v
}

// P4.2: each field of the order counts, also the last one, at the root and deep inside of other values.
func TestOneFieldDiffers(t *testing.T) {
	changes := []func(*api.Value){
		func(v *api.Value) { v.Kind++ }, func(v *api.Value) { v.Int++ }, func(v *api.Value) { v.Text = "ba" },
		func(v *api.Value) { v.Keys = append(v.Keys, api.Key{}) }, func(v *api.Value) { v.Keys[1].Kind++ }, func(v *api.Value) { v.Keys[1].Text = "c" },
		func(v *api.Value) { v.Kids = append(v.Kids, api.Value{}) }, func(v *api.Value) { v.Kids[1].Int++ }, func(v *api.Value) { v.Kids[1].Labels = []string{"B"} },
		func(v *api.Value) { v.Entries = append(v.Entries, api.Entry{}) }, func(v *api.Value) { v.Entries[1].Args = append(v.Entries[1].Args, api.Value{}) },
		func(v *api.Value) { v.Entries[0].Args = []api.Value{integer(1, "A"), integer(2)} }, func(v *api.Value) { v.Entries[1].Result.Text = "a" },
		func(v *api.Value) { v.Labels = append(v.Labels, "") }, func(v *api.Value) { v.Labels[0] = "Aa" },
	}
	same, smaller := oneField(func(*api.Value) {}), oneField(func(v *api.Value) { v.Entries[1].Fails = true })
	values := []api.Value{smaller}
	for _, change := range changes {
		values = append(values, oneField(change))
	}
	for i, v := range values {
		want := cmp.Compare(i, 0)*2 - 1
		for _, wrap := range wraps() {
			a, b := wrap(v), wrap(same)
			if value.Compare(a, b) != want || value.Compare(b, a) != -want || value.Equal(a, b) {
				t.Errorf("change %d: %s and %s: %d, %d", i, show(a), show(b), value.Compare(a, b), value.Compare(b, a))
			}
			if copied := wrap(oneField(func(*api.Value) {})); value.Compare(b, copied) != 0 || !value.Equal(b, copied) {
				t.Errorf("%s is not equal to itself", show(b))
			}
		}
	}
}

// wraps are the places in which a value may stand.
func wraps() []func(api.Value) api.Value {
	one := integer(1)
	return []func(api.Value) api.Value{
		func(v api.Value) api.Value { return v },
		func(v api.Value) api.Value { return node(api.VTuple, one, v) },
		func(v api.Value) api.Value { return record([]api.Key{atomKey("a")}, v) },
		func(v api.Value) api.Value { return pair(one, pair(v, empty())) },
		func(v api.Value) api.Value { return fun(2, maps(one, one, v)) },
		func(v api.Value) api.Value { return fun(1, fails(one), maps(v, one)) },
		func(v api.Value) api.Value { return fun(1, fails(node(api.VTuple, v))) },
		func(v api.Value) api.Value { return fun(0, maps(fun(0, maps(v)))) },
	}
}

// P4.2: nil and empty lists are the same (R3).
func TestEmptyListsAreEqual(t *testing.T) {
	bare := api.Value{Kind: api.VFun, Entries: []api.Entry{{Fails: true}}}
	full := api.Value{Kind: api.VFun, Kids: []api.Value{}, Keys: []api.Key{}, Labels: []string{}, Entries: []api.Entry{{Fails: true, Args: []api.Value{},
		Result: api.Value{Kids: []api.Value{}, Keys: []api.Key{}, Entries: []api.Entry{}, Labels: []string{}}}}}
	if value.Compare(bare, full) != 0 || value.Compare(full, bare) != 0 || !value.Equal(bare, full) || value.Validate(full) != api.OK {
		t.Error("nil and empty lists differ")
	}
}

// P4.2: the order sorts values the same way from any arrangement.
func TestCompareSorts(t *testing.T) {
	want := ascendingValues()
	mixed := slices.Clone(want)
	slices.Reverse(mixed)
	mixed = slices.Concat(mixed[len(mixed)/3:], mixed[:len(mixed)/3])
	slices.SortFunc(mixed, value.Compare)
	for i := range mixed {
		check(t, "sorted", mixed[i], want[i])
	}
}

// P4.2: the Kids come before what stands behind them, at each depth, and the last of the Kids is no exception.
func TestLastKidComesFirst(t *testing.T) {
	one, two := integer(1), integer(2)
	cases := [][2]api.Value{
		{labelled(pair(one, empty()), "B"), labelled(pair(one, labelled(empty(), "A")), "A")},
		{labelled(pair(one, labelled(pair(one, empty()), "C")), "B"), labelled(pair(one, labelled(pair(one, labelled(empty(), "A")), "B")), "A")},
		{labelled(pair(one, labelled(pair(one, empty()), "A")), "C"), labelled(pair(one, labelled(pair(one, empty()), "B")), "A")},
		{labelled(node(api.VTuple, labelled(one, "B"), one), "B"), labelled(node(api.VTuple, labelled(one, "C"), one), "A")},
		{labelled(node(api.VTuple, labelled(one, "B"), one), "B"), labelled(node(api.VTuple, labelled(one, "B"), two), "A")},
		{labelled(node(api.VTuple, labelled(one, "B"), labelled(one, "A")), "B"), labelled(node(api.VTuple, labelled(one, "B"), labelled(one, "B")), "A")},
		{labelled(node(api.VTuple, labelled(two, "B")), "A"), labelled(node(api.VTuple, labelled(two, "B")), "B")},
		{labelled(node(api.VTuple, fun(0, fails()), one), "B"), labelled(node(api.VTuple, fun(0, maps(one)), one), "A")},
		{labelled(node(api.VTuple, fun(0, fails())), "B"), labelled(node(api.VTuple, fun(0, maps(one))), "A")},
		{api.Value{Kind: api.VMap, Kids: []api.Value{one}, Entries: []api.Entry{maps(two)}}, api.Value{Kind: api.VMap, Kids: []api.Value{two}, Entries: []api.Entry{maps(one)}}},
		{api.Value{Kind: api.VMap, Kids: []api.Value{one}, Entries: []api.Entry{maps(one)}, Labels: []string{"B"}}, api.Value{Kind: api.VMap, Kids: []api.Value{one}, Entries: []api.Entry{maps(two)}, Labels: []string{"A"}}},
	}
	for _, c := range cases {
		for _, wrap := range wraps() {
			a, b := wrap(c[0]), wrap(c[1])
			if value.Compare(a, b) != -1 || value.Compare(b, a) != 1 || compareTokens(tokens(a), tokens(b)) != -1 {
				t.Errorf("Compare(%s, %s) = %d", show(a), show(b), value.Compare(a, b))
			}
		}
	}
}

// P4.2, P4.3: a list has as many levels as elements, and more of them than a stack of this size has room for.
func TestLongLists(t *testing.T) {
	defer debug.SetMaxStack(debug.SetMaxStack(1 << 23))
	long := func(first int64, last api.Value) api.Value {
		l := last
		for range 1 << 17 {
			l = pair(integer(1), l)
		}
		return pair(integer(first), l)
	}
	a, b := long(1, empty()), long(1, labelled(empty(), "A"))
	if value.Compare(a, b) != -1 || value.Compare(b, a) != 1 || value.Compare(b, b) != 0 || !value.Equal(a, long(1, empty())) {
		t.Error("Compare: long lists")
	}
	if value.Compare(labelled(a, "B"), labelled(b, "A")) != -1 || value.Compare(long(2, empty()), b) != 1 {
		t.Error("Compare: long lists that differ at the beginning")
	}
	for _, c := range []struct {
		v    api.Value
		want api.Code
	}{{a, api.OK}, {b, api.OK}, {fun(1, fails(a), fails(b)), api.OK}, {fun(1, fails(b), fails(a)), api.ErrInvalid}, {long(1, integer(1)), api.ErrInvalid}, {long(1, api.Value{Kind: api.VNil, Int: 1}), api.ErrInvalid}} {
		if code := value.Validate(c.v); code != c.want {
			t.Errorf("Validate of a long list: %v, want %v", code, c.want)
		}
	}
}
