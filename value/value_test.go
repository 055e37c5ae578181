package value_test

import (
	"fmt"
	"slices"
	"strings"
	"testing"

	"semtype/api"
	"semtype/value"
)

// The tests write values as trees of api.Value, so that they do not rest on the constructors under test.
func integer(n int64, labels ...string) api.Value {
	return api.Value{Kind: api.VInt, Int: n, Labels: labels}
}

func node(kind int, kids ...api.Value) api.Value { return api.Value{Kind: kind, Kids: kids} }

func pair(head, tail api.Value) api.Value { return node(api.VCons, head, tail) }

func empty() api.Value { return api.Value{Kind: api.VNil} }

func labelled(v api.Value, labels ...string) api.Value {
	v.Labels = labels
	return v
}

func fun(arity int64, entries ...api.Entry) api.Value {
	return api.Value{Kind: api.VFun, Int: arity, Entries: entries}
}

func maps(result api.Value, args ...api.Value) api.Entry {
	return api.Entry{Args: args, Result: result}
}

func fails(args ...api.Value) api.Entry { return api.Entry{Args: args, Fails: true} }

func atomKey(s string) api.Key { return api.Key{Kind: api.KeyAtom, Text: s} }

func stringKey(s string) api.Key { return api.Key{Kind: api.KeyString, Text: s} }

func record(keys []api.Key, l ...api.Value) api.Value {
	return api.Value{Kind: api.VMap, Keys: keys, Kids: l}
}

// show writes all fields of v; nil and empty lists look the same (R3).
func show(v api.Value) string { return strings.Join(words(v), " ") }

func words(v api.Value) []string {
	l := []string{fmt.Sprintf("%d %d %q keys(", v.Kind, v.Int, v.Text)}
	for _, k := range v.Keys {
		l = append(l, fmt.Sprintf("%d %q", k.Kind, k.Text))
	}
	l = append(l, ") kids(")
	for _, kid := range v.Kids {
		l = append(l, words(kid)...)
	}
	l = append(l, ") entries(")
	for _, e := range v.Entries {
		l = append(l, "args(")
		for _, arg := range e.Args {
			l = append(l, words(arg)...)
		}
		l = append(l, ")", fmt.Sprint(e.Fails))
		l = append(l, words(e.Result)...)
	}
	return append(l, ")", fmt.Sprintf("%q", v.Labels))
}

func check(t *testing.T, name string, got, want api.Value) {
	t.Helper()
	if show(got) != show(want) {
		t.Errorf("%s: got %s, want %s", name, show(got), show(want))
	}
}

// P4.1: valid values and others; a Result of an entry that fails, keys and labels are no nodes.
func TestNodesAndHeight(t *testing.T) {
	one, list := integer(1), pair(integer(1), pair(integer(2), empty()))
	dark := api.Entry{Args: []api.Value{one}, Fails: true, Result: list}
	cases := []struct {
		v             api.Value
		nodes, height int
	}{
		{one, 1, 1}, {api.Value{}, 1, 1}, {empty(), 1, 1}, {api.Value{Kind: api.VString, Text: "ab"}, 1, 1}, {node(api.VTuple), 1, 1}, {record(nil), 1, 1},
		{fun(0), 1, 1}, {fun(4), 1, 1}, {fun(0, fails()), 1, 1}, {labelled(one, "A", "B"), 1, 1}, {api.Value{Kind: -7, Keys: []api.Key{atomKey("a")}}, 1, 1},
		{list, 5, 3}, {node(api.VTuple, one), 2, 2}, {node(api.VTuple, one, list, one), 8, 4}, {node(api.VTuple, list, one), 7, 4},
		{record([]api.Key{atomKey("a"), atomKey("b")}, one, node(api.VTuple, one)), 4, 3},
		{fun(0, maps(one)), 2, 2}, {fun(0, maps(list)), 6, 4}, {fun(1, maps(one, list)), 7, 4}, {fun(2, maps(one, one, list)), 8, 4},
		{fun(1, fails(one)), 2, 2}, {fun(1, fails(list)), 6, 4}, {fun(1, dark), 2, 2}, {fun(1, dark, maps(one, one)), 4, 2}, {fun(1, maps(list, one), fails(one)), 8, 4},
		{fun(0, api.Entry{Fails: true, Result: list}), 1, 1}, {fun(0, fails(), maps(one)), 2, 2},
		{fun(1, maps(fun(1, fails(list)), one)), 8, 5}, {fun(1, fails(fun(1, dark, maps(api.Value{}, one)))), 5, 3},
		{api.Value{Kind: api.VInt, Kids: []api.Value{list}}, 6, 4}, {api.Value{Kind: 99, Kids: []api.Value{one}, Entries: []api.Entry{maps(list, one)}}, 8, 4},
	}
	for _, c := range cases {
		if n, h := value.Nodes(c.v), value.Height(c.v); n != c.nodes || h != c.height {
			t.Errorf("%s: %d nodes, height %d", show(c.v), n, h)
		}
	}
}

// P4.4: the values without other nodes, also those that are not valid.
func TestLeaves(t *testing.T) {
	for _, n := range []int64{0, 1, -1, 42, 1<<63 - 1, -1 << 63} {
		check(t, "Int", value.Int(n), api.Value{Kind: api.VInt, Int: n})
		check(t, "Pid", value.Pid(n), api.Value{Kind: api.VPid, Int: n})
	}
	for _, s := range []string{"", "a", "a b", "No", "\x00\xff", strings.Repeat("x", api.MaxText+1)} {
		check(t, "String", value.String(s), api.Value{Kind: api.VString, Text: s})
		check(t, "Atom", value.Atom(s), api.Value{Kind: api.VAtom, Text: s})
	}
	check(t, "Nil", value.Nil(), api.Value{Kind: api.VNil})
}

// P4.4: tuples, pairs and lists, with the chapter's example; nothing is checked, and the labels of the parts stay.
func TestTuplesAndLists(t *testing.T) {
	one, two, bad := integer(1), integer(2, "B", "A"), api.Value{Kind: 77, Int: 3, Text: "x"}
	parts := [][]api.Value{nil, {one}, {two, one}, {one, one, bad}, {bad, bad, one, two}, {one, one, one, one, one, one}, {node(api.VTuple, one), pair(one, empty())}}
	for _, l := range parts {
		check(t, "Tuple", value.Tuple(l...), node(api.VTuple, l...))
		list := empty()
		for i := len(l) - 1; i >= 0; i-- {
			list = pair(l[i], list)
		}
		check(t, "List", value.List(l...), list)
		for _, tail := range append(l, empty()) {
			check(t, "Cons", value.Cons(one, tail), pair(one, tail))
			check(t, "Cons", value.Cons(tail, bad), pair(tail, bad))
		}
	}
	example := value.List(value.Int(1), value.Int(2))
	check(t, "List", example, value.Cons(value.Int(1), value.Cons(value.Int(2), value.Nil())))
	if value.Nodes(example) != 5 || value.Height(example) != 3 {
		t.Errorf("%d nodes, height %d", value.Nodes(example), value.Height(example))
	}
}

// P4.5: keys in any order; the values follow their keys and are not checked.
func TestMap(t *testing.T) {
	one, two, bad := integer(1), integer(2, "B", "A"), api.Value{Kind: 77}
	long, name := stringKey(strings.Repeat("\xff", api.MaxText)), atomKey(strings.Repeat("z", api.MaxName))
	cases := []struct {
		keys []api.Key
		l    []api.Value
		want api.Value
	}{
		{nil, nil, record(nil)},
		{[]api.Key{}, nil, record(nil)},
		{[]api.Key{atomKey("a")}, []api.Value{two}, record([]api.Key{atomKey("a")}, two)},
		{[]api.Key{atomKey("b"), atomKey("a")}, []api.Value{one, two}, record([]api.Key{atomKey("a"), atomKey("b")}, two, one)},
		{[]api.Key{stringKey("a"), atomKey("a")}, []api.Value{one, bad}, record([]api.Key{atomKey("a"), stringKey("a")}, bad, one)},
		{[]api.Key{stringKey("a"), atomKey("b"), stringKey(""), atomKey("ab")}, []api.Value{one, two, bad, one}, record([]api.Key{atomKey("ab"), atomKey("b"), stringKey(""), stringKey("a")}, one, two, bad, one)},
		{[]api.Key{long, name}, []api.Value{one, two}, record([]api.Key{name, long}, two, one)},
	}
	for _, c := range cases {
		got, code := value.Map(c.keys, c.l)
		check(t, "Map", got, c.want)
		if code != api.OK {
			t.Errorf("%v: %v", c.keys, code)
		}
	}
}

// P4.5: the first error that applies, and no value beside it.
func TestMapErrors(t *testing.T) {
	a, b, one := atomKey("a"), stringKey("a"), integer(1)
	cases := []struct {
		keys []api.Key
		size int
		want api.Code
	}{
		{nil, 1, api.ErrInvalid}, {[]api.Key{a}, 0, api.ErrInvalid}, {[]api.Key{a, b}, 1, api.ErrInvalid}, {[]api.Key{a, b}, 3, api.ErrInvalid},
		{[]api.Key{atomKey("A")}, 1, api.ErrInvalid}, {[]api.Key{a, atomKey("")}, 2, api.ErrInvalid}, {[]api.Key{{Kind: 2, Text: "a"}, a}, 2, api.ErrInvalid}, {[]api.Key{{Kind: -1, Text: "a"}}, 1, api.ErrInvalid},
		{[]api.Key{a, stringKey(strings.Repeat("x", api.MaxText+1)), b}, 3, api.ErrInvalid}, {[]api.Key{atomKey(strings.Repeat("x", api.MaxName+1))}, 1, api.ErrInvalid},
		{[]api.Key{a, a}, 2, api.ErrDuplicate}, {[]api.Key{b, a, b}, 3, api.ErrDuplicate}, {[]api.Key{a, b, stringKey("b"), stringKey(""), a}, 5, api.ErrDuplicate},
		{[]api.Key{a, a}, 1, api.ErrInvalid}, {[]api.Key{a, a, atomKey("A")}, 3, api.ErrInvalid}, {[]api.Key{atomKey("A"), atomKey("A")}, 2, api.ErrInvalid}, {[]api.Key{atomKey("A"), a, a}, 2, api.ErrInvalid},
	}
	for _, c := range cases {
		l := make([]api.Value, c.size)
		for i := range l {
			l[i] = one
		}
		got, code := value.Map(c.keys, l)
		check(t, "Map", got, api.Value{})
		if code != c.want {
			t.Errorf("%v with %d values: %v", c.keys, c.size, code)
		}
	}
}

// P4.5: entries in any order and more than once; an entry that fails comes first; labels make entries different.
func TestFunction(t *testing.T) {
	one, two, bad := integer(1), integer(2), api.Value{Kind: 77}
	labelledOne := integer(1, "A")
	cases := []struct {
		arity   int
		l, want []api.Entry
	}{
		{0, nil, nil}, {api.MaxArity, []api.Entry{}, nil},
		{0, []api.Entry{maps(two), fails(), maps(one)}, []api.Entry{fails(), maps(one), maps(two)}},
		{0, []api.Entry{fails(), fails()}, []api.Entry{fails()}},
		{1, []api.Entry{maps(one, two), maps(two, one)}, []api.Entry{maps(two, one), maps(one, two)}},
		{1, []api.Entry{maps(one, one), fails(two), maps(one, one), fails(one), fails(two), maps(two, one)}, []api.Entry{fails(one), maps(one, one), maps(two, one), fails(two)}},
		{1, []api.Entry{maps(two, labelledOne), maps(two, one)}, []api.Entry{maps(two, one), maps(two, labelledOne)}},
		{1, []api.Entry{maps(api.Value{}, one), fails(one)}, []api.Entry{fails(one), maps(api.Value{}, one)}},
		{1, []api.Entry{maps(bad, bad), maps(one, bad), maps(bad, integer(1, "B", "A"))}, []api.Entry{maps(bad, integer(1, "B", "A")), maps(one, bad), maps(bad, bad)}},
		{2, []api.Entry{maps(one, two, one), maps(one, one, two), maps(one, two, one)}, []api.Entry{maps(one, one, two), maps(one, two, one)}},
		{api.MaxArity, []api.Entry{fails(one, one, one, two), fails(one, one, one, one)}, []api.Entry{fails(one, one, one, one), fails(one, one, one, two)}},
		{0, []api.Entry{{Fails: true, Result: api.Value{Kids: []api.Value{}, Labels: []string{}}}, fails()}, []api.Entry{fails()}},
	}
	for _, c := range cases {
		got, code := value.Function(c.arity, c.l...)
		check(t, "Function", got, fun(int64(c.arity), c.want...))
		if code != api.OK {
			t.Errorf("arity %d, %d entries: %v", c.arity, len(c.l), code)
		}
	}
}

// P4.5: what is no function.
func TestFunctionErrors(t *testing.T) {
	one := integer(1)
	failsWith := func(result api.Value, args ...api.Value) api.Entry {
		return api.Entry{Args: args, Fails: true, Result: result}
	}
	cases := []struct {
		arity int
		l     []api.Entry
	}{
		{-1, nil}, {api.MaxArity + 1, nil}, {-1 << 63, nil}, {1<<63 - 1, nil}, {5, []api.Entry{maps(one, one, one, one, one, one)}}, {1 << 32, []api.Entry{maps(one)}},
		{0, []api.Entry{maps(one, one)}}, {1, []api.Entry{maps(one)}}, {1, []api.Entry{fails()}}, {1, []api.Entry{maps(one, one, one)}}, {1, []api.Entry{maps(one, one), fails(one), fails(one, one)}},
		{2, []api.Entry{maps(one, one), maps(one, one, one)}}, {0, []api.Entry{failsWith(one)}}, {1, []api.Entry{fails(one), failsWith(one, one)}},
		{0, []api.Entry{failsWith(integer(0))}}, {0, []api.Entry{failsWith(api.Value{Int: 1})}}, {0, []api.Entry{failsWith(api.Value{Text: "a"})}}, {0, []api.Entry{failsWith(api.Value{Labels: []string{"A"}})}},
		{0, []api.Entry{failsWith(api.Value{Kids: []api.Value{{}}})}}, {0, []api.Entry{failsWith(api.Value{Keys: []api.Key{{}}})}}, {0, []api.Entry{maps(one), failsWith(api.Value{Entries: []api.Entry{{}}})}},
	}
	for i, c := range cases {
		got, code := value.Function(c.arity, c.l...)
		check(t, "Function", got, api.Value{})
		if code != api.ErrInvalid {
			t.Errorf("case %d: %v", i, code)
		}
	}
}

// P4.6: labels in any order and more than once; those of other nodes stay.
func TestWithLabels(t *testing.T) {
	inner := pair(integer(1, "C"), labelled(empty(), "D"))
	for _, v := range []api.Value{integer(7), inner, labelled(inner, "Z"), labelled(inner, "Z", "A", "A"), {}, fun(1, maps(integer(1, "E"), inner)), record([]api.Key{atomKey("a")}, inner)} {
		check(t, "no labels", value.WithLabels(v), labelled(v))
		check(t, "one label", value.WithLabels(v, "A"), labelled(v, "A"))
		check(t, "three labels", value.WithLabels(v, "B", "A", "Aa"), labelled(v, "A", "Aa", "B"))
		check(t, "repeated labels", value.WithLabels(v, "B", "A", "B", "B", "A"), labelled(v, "A", "B"))
		check(t, "other names", value.WithLabels(v, "b", "", "\xff", "B", "_", ""), labelled(v, "", "B", "_", "b", "\xff"))
	}
}

// P4.6: entries that become equal are merged and sorted again, also inside of other values.
func TestUnlabel(t *testing.T) {
	one, two, oneA, twoA := integer(1), integer(2), integer(1, "A"), integer(2, "A")
	merging, merged := fun(1, maps(two, one), maps(two, oneA)), fun(1, maps(two, one))
	darkA, dark := api.Entry{Fails: true, Result: pair(oneA, merging)}, api.Entry{Fails: true, Result: pair(one, merged)}
	keys := []api.Key{atomKey("b"), stringKey("a"), atomKey("a")}
	cases := []struct{ v, want api.Value }{
		{one, one}, {oneA, one}, {integer(1, "B", "A", "no name"), one}, {api.Value{}, api.Value{}}, {labelled(api.Value{Kind: 77, Int: 2, Text: "x"}, "A"), api.Value{Kind: 77, Int: 2, Text: "x"}},
		{labelled(pair(oneA, labelled(empty(), "B")), "C"), pair(one, empty())}, {node(api.VTuple, oneA, node(api.VTuple, twoA)), node(api.VTuple, one, node(api.VTuple, two))},
		{labelled(record(keys, oneA, two, twoA), "A"), record(keys, one, two, two)},
		{merging, merged}, {labelled(merging, "B"), merged}, {pair(merging, merging), pair(merged, merged)}, {record([]api.Key{atomKey("a")}, merging), record([]api.Key{atomKey("a")}, merged)},
		{fun(1, maps(one, merging), maps(two, fun(1, maps(two, oneA)))), fun(1, maps(one, merged), maps(two, merged))},
		{fun(1, maps(one, merging), maps(one, fun(1, maps(two, oneA)))), fun(1, maps(one, merged))}, {fun(0, maps(merging)), fun(0, maps(merged))},
		{fun(0, maps(merging), maps(merged)), fun(0, maps(merged))}, {fun(1, fails(one), fails(oneA)), fun(1, fails(one))},
		{fun(1, maps(two, one), maps(one, oneA)), fun(1, maps(one, one), maps(two, one))}, {fun(1, maps(two, one), fails(oneA)), fun(1, fails(one), maps(two, one))},
		{fun(2, maps(one, one, two), maps(one, oneA, one)), fun(2, maps(one, one, one), maps(one, one, two))},
		{fun(0, maps(one), maps(oneA), maps(two)), fun(0, maps(one), maps(two))}, {fun(1, maps(one, two), maps(two, one), maps(one, two)), fun(1, maps(two, one), maps(one, two))},
		{fun(0, darkA), fun(0, dark)}, {fun(0, darkA, dark), fun(0, dark)}, {fun(0, api.Entry{Fails: true, Result: twoA}, api.Entry{Fails: true, Result: one}), fun(0, api.Entry{Fails: true, Result: one}, api.Entry{Fails: true, Result: two})},
	}
	for _, c := range cases {
		check(t, "Unlabel", value.Unlabel(c.v), c.want)
	}
	example, code := value.Function(1, maps(two, oneA), maps(two, one))
	if len(example.Entries) != 2 || code != api.OK || len(value.Unlabel(example).Entries) != 1 {
		t.Errorf("%s: %v", show(example), code)
	}
}

// P4.6: lists and values that are none; labels, heads and further fields do not matter.
func TestElements(t *testing.T) {
	one, two, bad := integer(1), integer(2, "B", "A"), api.Value{Kind: 77}
	lists := [][]api.Value{nil, {one}, {two, one}, {one, bad, one, two}, {pair(one, empty()), empty(), pair(one, one)}}
	for _, l := range lists {
		v := labelled(empty(), "C")
		for i := len(l) - 1; i >= 0; i-- {
			v = labelled(pair(l[i], v), "A", "B")
		}
		if got, ok := value.Elements(v); show(node(0, got...)) != show(node(0, l...)) || !ok {
			t.Errorf("%s: %s, %v", show(v), show(node(0, got...)), ok)
		}
	}
	if got, ok := value.Elements(api.Value{Kind: api.VCons, Int: 4, Text: "x", Kids: []api.Value{one, {Kind: api.VNil, Kids: lists[3]}}}); len(got) != 1 || !ok {
		t.Errorf("further fields: %d elements, %v", len(got), ok)
	}
	others := []api.Value{
		{}, one, node(api.VTuple), node(api.VTuple, one, empty()), record(nil), fun(0), bad, node(api.VCons), node(api.VCons, empty()), node(api.VCons, one, empty(), empty()),
		pair(one, one), pair(empty(), two), pair(one, node(api.VTuple)), pair(one, pair(one, two)), pair(one, node(api.VCons)), pair(one, node(api.VCons, one)), pair(one, pair(one, node(api.VCons, one, empty(), empty()))),
		pair(one, api.Value{}), {Kind: 77, Kids: []api.Value{one, empty()}}, node(0, one, empty()),
	}
	for _, v := range others {
		if got, ok := value.Elements(v); got != nil || ok {
			t.Errorf("%s: %d elements, %v", show(v), len(got), ok)
		}
	}
}

// P4.1 to P4.6 hold for long lists.
func TestLongList(t *testing.T) {
	l := make([]api.Value, 1<<16-1)
	for i := range l {
		l[i] = integer(int64(i))
	}
	plain := value.List(l...)
	if value.Nodes(plain) != 2*len(l)+1 || value.Height(plain) != len(l)+1 || value.Validate(plain) != api.OK {
		t.Errorf("%d nodes, height %d, %v", value.Nodes(plain), value.Height(plain), value.Validate(plain))
	}
	labelledList := value.WithLabels(plain, "A")
	if value.Compare(plain, labelledList) != -1 || !value.Equal(value.Unlabel(labelledList), plain) {
		t.Error("the label is not the only difference")
	}
	if got, ok := value.Elements(plain); !ok || !slices.EqualFunc(got, l, value.Equal) {
		t.Errorf("%d elements, %v", len(got), ok)
	}
}
