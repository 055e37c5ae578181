package member_test

import (
	"fmt"
	"slices"
	"strings"
	"testing"

	"semtype/api"
	"semtype/member"
	"semtype/samples"
	"semtype/typeexpr"
	"semtype/value"
)

func show(x any) string { return fmt.Sprintf("%v", x) }

// expect checks the members of the root of x, and that they alone need no explanation.
func expect(t *testing.T, name string, x api.Type, in, out []api.Value) {
	t.Helper()
	if code := typeexpr.WellFormed(x); code != api.OK {
		t.Fatal(name, code)
	}
	for i, v := range slices.Concat(in, out) {
		is := i < len(in)
		if value.Validate(v) != api.OK {
			t.Fatalf("%s: %v is not valid", name, v)
		}
		if member.Member(v, x) != is || member.MemberOf(v, x, x.Root) != is {
			t.Errorf("%s: %v should be a member: %v", name, v, is)
		}
		if path := member.Explain(v, x); is != (len(path) == 0) {
			t.Errorf("%s: the path for %v is %v", name, v, path)
		}
	}
}

// P8.1: a node without parts has the values of its kind only, with any labels.
func TestKinds(t *testing.T) {
	values := samples.Values()
	nodes := []struct {
		node api.TypeNode
		has  func(v api.Value) bool
	}{
		{kind(api.TNone), func(v api.Value) bool { return false }},
		{kind(api.TAny), func(v api.Value) bool { return true }},
		{from(least, greatest), func(v api.Value) bool { return v.Kind == api.VInt }},
		{from(0, 0), func(v api.Value) bool { return v.Kind == api.VInt && v.Int == 0 }},
		{text(api.TString, ""), func(v api.Value) bool { return v.Kind == api.VString && v.Text == "" }},
		{text(api.TString, "a"), func(v api.Value) bool { return v.Kind == api.VString && v.Text == "a" }},
		{text(api.TAtom, "a"), func(v api.Value) bool { return v.Kind == api.VAtom && v.Text == "a" }},
		{kind(api.TStrings), func(v api.Value) bool { return v.Kind == api.VString }},
		{kind(api.TAtoms), func(v api.Value) bool { return v.Kind == api.VAtom }},
		{kind(api.TPid), func(v api.Value) bool { return v.Kind == api.VPid }},
		{kind(api.TNil), func(v api.Value) bool { return v.Kind == api.VNil }},
		{kind(api.TTuples), func(v api.Value) bool { return v.Kind == api.VTuple }},
		{kind(api.TFuns), func(v api.Value) bool { return v.Kind == api.VFun }},
		{text(api.TVar, "A"), func(v api.Value) bool { return slices.Contains(v.Labels, "A") }},
		{kind(api.TTuple), func(v api.Value) bool { return v.Kind == api.VTuple && len(v.Kids) == 0 }},
		{kind(api.TCons, 1, 1), func(v api.Value) bool { return v.Kind == api.VCons }},
		{record(1, 1), func(v api.Value) bool { return v.Kind == api.VMap }},
		{kind(api.TFun, 1, 1), func(v api.Value) bool {
			return v.Kind == api.VFun && v.Int == 1 && !slices.ContainsFunc(v.Entries, func(e api.Entry) bool { return e.Fails })
		}},
	}
	for _, c := range nodes {
		var in, out []api.Value
		for _, v := range values {
			if c.has(v) {
				in = append(in, v)
			} else {
				out = append(out, v)
			}
		}
		expect(t, show(c.node), graph(c.node, kind(api.TAny)), in, out)
	}
}

// P8.1: TInt has both ends of its range, also at the ends of the 64-bit integers.
func TestIntegers(t *testing.T) {
	ints := func(l ...int64) []api.Value {
		var out []api.Value
		for _, n := range l {
			out = append(out, integer(n), label(integer(n), "A"))
		}
		return out
	}
	expect(t, "-2 to 3", graph(from(-2, 3)), ints(-2, -1, 0, 3), ints(least, -3, 4, greatest))
	expect(t, "7", graph(from(7, 7)), ints(7), ints(6, 8, -7))
	expect(t, "all", graph(from(least, greatest)), ints(least, least+1, -1, 0, 1, greatest-1, greatest), nil)
	expect(t, "least", graph(from(least, least)), ints(least), ints(least+1, 0, greatest))
	expect(t, "greatest", graph(from(greatest, greatest)), ints(greatest), ints(greatest-1, -1, least))
	expect(t, "to -1", graph(from(least, -1)), ints(least, -1), ints(0, greatest))
	expect(t, "from 1", graph(from(1, greatest)), ints(1, greatest), append(ints(0, least), value.Pid(1), fun(1), str("1")))
}

// P8.1: a text belongs to strings or to atoms.
func TestTexts(t *testing.T) {
	long, name := strings.Repeat("x", api.MaxText), strings.Repeat("x", api.MaxName)
	expect(t, "string", graph(text(api.TString, "ok")), []api.Value{str("ok"), label(str("ok"), "A")}, []api.Value{atom("ok"), str("o"), str("okk"), str("")})
	expect(t, "atom", graph(text(api.TAtom, "ok")), []api.Value{atom("ok"), label(atom("ok"), "A")}, []api.Value{str("ok"), atom("o"), atom("okk")})
	expect(t, "long string", graph(text(api.TString, long)), []api.Value{str(long)}, []api.Value{str(long[1:]), str(name)})
	expect(t, "long atom", graph(text(api.TAtom, name)), []api.Value{atom(name)}, []api.Value{atom(name[1:]), str(name)})
	expect(t, "empty string", graph(kind(api.TString)), []api.Value{str("")}, []api.Value{str("\x00"), value.Nil(), integer(0)})
	expect(t, "strings", graph(kind(api.TStrings)), []api.Value{str(""), str(long), str("\xff")}, []api.Value{atom("a")})
	expect(t, "atoms", graph(kind(api.TAtoms)), []api.Value{atom("a"), atom(name)}, []api.Value{str("a")})
}

// P8.1: a tuple has as many Kids as the node, each a member of the Kid at its index.
func TestTuples(t *testing.T) {
	x := graph(kind(api.TTuple, 1, 2), from(0, 9), kind(api.TAtoms))
	expect(t, "pair", x, []api.Value{tuple(integer(3), atom("a")), label(tuple(integer(0), atom("b")), "A")}, []api.Value{
		tuple(), tuple(integer(3)), tuple(integer(3), atom("a"), atom("a")), tuple(integer(3), atom("a"), integer(3), atom("a")),
		tuple(atom("a"), integer(3)), tuple(integer(10), atom("a")), tuple(integer(3), str("a")), list(integer(3), atom("a")), value.Cons(integer(3), list(atom("a"))),
	})
	expect(t, "unit", graph(kind(api.TTuple)), []api.Value{tuple()}, []api.Value{tuple(tuple()), value.Nil(), dict(), fun(0)})
	four := graph(kind(api.TTuple, 1, 1, 1, 2), kind(api.TAny), kind(api.TNil))
	expect(t, "four", four, []api.Value{tuple(str("a"), str("b"), tuple(), list())}, []api.Value{tuple(list(), list(), list()), tuple(list(), list(), list(), tuple())})
	expect(t, "empty part", graph(kind(api.TTuple, 1), kind(api.TNone)), nil, []api.Value{tuple(), tuple(integer(1))})
	expect(t, "tuples", graph(kind(api.TTuples)), []api.Value{tuple(), tuple(integer(1)), tuple(tuple(), tuple(), tuple(), tuple())}, []api.Value{list(tuple()), dict(), fun(0)})
}

// P8.1: a VCons has a head and a tail that are members of the two Kids.
func TestCons(t *testing.T) {
	x := graph(kind(api.TCons, 1, 2), from(0, 9), kind(api.TNil))
	expect(t, "one digit", x, []api.Value{list(integer(0)), list(integer(9))}, []api.Value{
		list(), list(integer(10)), list(integer(1), integer(1)), list(list(integer(1))), tuple(integer(1), value.Nil()), integer(1),
	})
	labelled := graph(kind(api.TCons, 1, 2), kind(api.TAny), text(api.TVar, "A"))
	expect(t, "labelled tail", labelled, []api.Value{value.Cons(integer(1), label(list(), "A"))}, []api.Value{list(integer(1)), label(list(integer(1)), "A"), list(label(integer(1), "A"))})
}

// P8.1: each field and each other key of a map, by its kind.
func TestMaps(t *testing.T) {
	one, word := integer(1), str("w")
	x := graph(record(3, 4, field("a", 1), optional("b", 1), field("\"a", 2), optional("\"b", 2)), from(0, 9), kind(api.TStrings), kind(api.TAtoms), kind(api.TPid))
	expect(t, "fields", x, []api.Value{
		dict("a", one, "\"a", word), dict("a", one, "b", one, "\"a", word, "\"b", word), dict("a", one, "\"a", word, "c", atom("x"), "aa", atom("y"), "\"c", value.Pid(1), "\"", value.Pid(2)),
		label(dict("a", one, "\"a", word, "\"b", word), "A"),
	}, []api.Value{
		dict(), dict("a", one), dict("\"a", word), dict("b", one, "\"b", word), dict("a", word, "\"a", word), dict("a", one, "\"a", one), dict("a", word, "\"a", one),
		dict("a", one, "\"a", word, "b", word), dict("a", one, "\"a", word, "b", atom("x")), dict("a", one, "\"a", word, "\"b", one), dict("a", one, "\"a", word, "\"b", value.Pid(0)),
		dict("a", one, "\"a", word, "c", one), dict("a", one, "\"a", word, "c", value.Pid(0)), dict("a", one, "\"a", word, "\"c", word), dict("a", one, "\"a", word, "\"c", atom("x")),
		dict("a", one, "\"a", word, "c", atom("x"), "d", one), tuple(one, word), list(one), fun(0),
	})
	closed := graph(record(1, 1, optional("b", 2)), kind(api.TNone), kind(api.TAny))
	expect(t, "closed", closed, []api.Value{dict(), dict("b", one)}, []api.Value{dict("a", one), dict("c", one), dict("\"b", one), dict("b", one, "c", one), dict("a", one, "b", one)})
	never := graph(record(2, 2, optional("a", 1), optional("\"a", 1)), kind(api.TNone), kind(api.TAny))
	expect(t, "keys that are not there", never, []api.Value{dict(), dict("b", one, "\"b", one)}, []api.Value{dict("a", one), dict("\"a", one), dict("a", one, "b", one)})
	expect(t, "field without members", graph(record(2, 2, field("a", 1)), kind(api.TNone), kind(api.TAny)), nil, []api.Value{dict(), dict("a", one)})
	labels := graph(record(1, 2, field("a", 2)), text(api.TVar, "A"), kind(api.TAny))
	expect(t, "labels of a part", labels, []api.Value{dict("a", one, "b", label(one, "A"), "\"b", one)}, []api.Value{dict("a", one, "b", one), label(dict("a", one, "b", label(one, "B")), "A")})
}

// P8.1: many fields, some there and some not, between other keys.
func TestManyFields(t *testing.T) {
	names := strings.Split("abcdefghijklmnopqrstuvwxyz", "")
	var fields []api.Field
	var pairs []any
	for i, name := range names {
		if i%3 == 1 {
			fields = append(fields, api.Field{Key: key(name), Node: 1, Optional: i%2 == 0})
		}
		if i%3 != 2 {
			pairs = append(pairs, name, map[bool]api.Value{true: atom("a"), false: integer(1)}[i%3 == 1])
		}
	}
	x := graph(record(2, 2, fields...), kind(api.TAtoms), from(0, 9))
	expect(t, "all there", x, []api.Value{dict(pairs...)}, nil)
	for i := 0; i < len(pairs); i += 2 {
		at := slices.Index(names, pairs[i].(string))
		without := dict(slices.Delete(slices.Clone(pairs), i, i+2)...)
		other := slices.Clone(pairs)
		other[i+1] = str("a")
		if is := at%3 == 0 || at%2 == 0; member.Member(without, x) != is || member.Member(dict(other...), x) {
			t.Error(pairs[i])
		}
	}
}

// P8.1: what the entries of a function say about a function type.
func TestFunctions(t *testing.T) {
	one, word, a := integer(1), str("w"), atom("a")
	x := graph(kind(api.TFun, 1, 2, 3), from(0, 9), kind(api.TStrings), kind(api.TAtoms))
	expect(t, "two parameters", x, []api.Value{
		fun(2), label(fun(2), "A"), fun(2, maps(one, word, a)), fun(2, maps(word, one, one)), fun(2, maps(one, one, one)), fun(2, maps(word, word, word)), fun(2, fails(word, word)), fun(2, fails(one, one)), fun(2, fails(word, one)),
		fun(2, maps(one, word, a), maps(one, word, atom("b")), maps(a, a, one), fails(a, a)),
	}, []api.Value{
		fun(0), fun(1), fun(3), fun(4), fun(1, maps(one, a)), fun(3, maps(one, word, word, a)), fun(2, maps(one, word, one)), fun(2, fails(one, word)),
		fun(2, maps(one, word, a), maps(one, word, word)), fun(2, maps(one, word, a), fails(one, word)), fun(2, maps(a, a, a), fails(one, word)), fun(2, fails(a, a), maps(integer(9), str(""), word)), tuple(one, word), a,
	})
	constant := graph(kind(api.TFun, 1), from(0, 9))
	expect(t, "no parameters", constant, []api.Value{fun(0), fun(0, maps(one)), fun(0, maps(one), maps(integer(2)))}, []api.Value{fun(0, fails()), fun(0, maps(a)), fun(0, maps(one), maps(a)), fun(0, fails(), maps(one)), fun(1), one})
	anything := graph(kind(api.TFun, 1, 1), kind(api.TAny))
	expect(t, "never fails", anything, []api.Value{fun(1), fun(1, maps(one, a), maps(a, one))}, []api.Value{fun(1, fails(one)), fun(1, maps(one, a), fails(a))})
	nothing := graph(kind(api.TFun, 1, 1), kind(api.TNone))
	expect(t, "no arguments", nothing, []api.Value{fun(1), fun(1, fails(one)), fun(1, maps(one, one))}, []api.Value{fun(0), fun(2), fun(2, fails(one, one))})
	four := graph(kind(api.TFun, 1, 1, 1, 1, 2), from(0, 9), kind(api.TNone))
	expect(t, "no result", four, []api.Value{fun(4), fun(4, maps(one, one, one, a, one)), fun(4, fails(a, one, one, one))}, []api.Value{fun(4, maps(one, one, one, one, one)), fun(4, fails(one, one, one, one))})
	higher := graph(kind(api.TFun, 1, 2), kind(api.TFun, 2, 2), from(0, 9))
	good, bad := fun(1, maps(one, one), fails(a)), fun(1, maps(one, a))
	expect(t, "functions as arguments", higher, []api.Value{fun(1, maps(good, one)), fun(1, maps(bad, a)), fun(1, fails(bad)), fun(1, fails(fun(0)))}, []api.Value{fun(1, maps(good, a)), fun(1, fails(good)), fun(1, maps(fun(1), bad))})
	labels := graph(kind(api.TFun, 1, 1), text(api.TVar, "A"))
	expect(t, "labels of parts", labels, []api.Value{fun(1, maps(one, one)), fun(1, maps(label(one, "A"), label(a, "A"))), fun(1, fails(label(one, "B")))}, []api.Value{fun(1, maps(label(one, "A"), one)), fun(1, fails(label(one, "A", "B"))), label(one, "A")})
}

// The examples of the chapter.
func TestExamples(t *testing.T) {
	f := fun(1, fails(integer(1)))
	expect(t, "(atom) -> int", graph(kind(api.TFun, 1, 2), kind(api.TAtoms), from(least, greatest)), []api.Value{f}, nil)
	expect(t, "(int) -> int", graph(kind(api.TFun, 1, 1), from(least, greatest)), nil, []api.Value{f})
	m := dict("a", integer(1))
	expect(t, "rest int", graph(record(1, 2), from(least, greatest), kind(api.TNone)), []api.Value{m}, nil)
	expect(t, "rest none", graph(record(2, 1), from(least, greatest), kind(api.TNone)), nil, []api.Value{m})
}

// P8.1: connectives of one and many Kids, and of Kids that occur twice.
func TestConnectives(t *testing.T) {
	parts := []api.TypeNode{{}, from(0, 5), from(4, 9), kind(api.TAtoms), text(api.TVar, "A"), kind(api.TNot, 6), kind(api.TNot, 1)}
	root := func(k int, kids ...int) api.Type {
		return graph(slices.Concat([]api.TypeNode{kind(k, kids...)}, parts[1:])...)
	}
	five, nine, a, labelled := integer(5), integer(9), atom("a"), label(atom("a"), "A")
	expect(t, "union of one", root(api.TUnion, 1), []api.Value{five}, []api.Value{nine, a, labelled})
	expect(t, "union of two", root(api.TUnion, 1, 3), []api.Value{five, a, labelled}, []api.Value{nine, str("a")})
	expect(t, "union of many", root(api.TUnion, 1, 2, 3, 4, 1), []api.Value{five, nine, a, labelled, label(str("a"), "A")}, []api.Value{integer(10), str("a")})
	expect(t, "intersection of one", root(api.TInter, 1), []api.Value{five, label(five, "A")}, []api.Value{nine, a})
	expect(t, "intersection of two", root(api.TInter, 1, 2), []api.Value{five, integer(4)}, []api.Value{nine, integer(3), a})
	expect(t, "intersection of many", root(api.TInter, 1, 2, 4, 5, 1), []api.Value{label(five, "A"), label(integer(4), "A", "B")}, []api.Value{five, label(nine, "A"), label(five, "B"), labelled})
	expect(t, "not", root(api.TNot, 1), []api.Value{nine, a, labelled, tuple(), fun(0), list(five)}, []api.Value{five, label(five, "A")})
	expect(t, "not of not", root(api.TNot, 6), []api.Value{five, label(five, "A")}, []api.Value{nine, a, tuple()})
	expect(t, "not of not of not", root(api.TNot, 5), []api.Value{nine, a, tuple()}, []api.Value{five})
}

// P8.2: a label of a part says nothing of the whole, and a label of the whole nothing of a part.
func TestLabels(t *testing.T) {
	one := integer(1)
	marked := label(one, "A")
	expect(t, "A", graph(text(api.TVar, "A")), []api.Value{marked, label(one, "A", "B"), label(tuple(one), "A"), label(fun(1), "A")}, []api.Value{
		one, label(one, "B"), label(one, "Aa"), tuple(marked), list(marked), dict("a", marked), fun(0, maps(marked)), fun(1, maps(marked, one)), fun(1, fails(marked)), label(tuple(marked), "B"),
	})
	expect(t, "tuple of A", graph(kind(api.TTuple, 1), text(api.TVar, "A")), []api.Value{tuple(marked), label(tuple(marked), "B")}, []api.Value{tuple(one), label(tuple(one), "A"), marked})
	expect(t, "not A", graph(kind(api.TNot, 1), text(api.TVar, "A")), []api.Value{one, tuple(marked)}, []api.Value{marked})
	expect(t, "A and not B", graph(kind(api.TInter, 1, 2), text(api.TVar, "A"), kind(api.TNot, 3), text(api.TVar, "B")), []api.Value{marked}, []api.Value{one, label(one, "A", "B"), label(one, "B")})
	expect(t, "parts that nothing tests", graph(kind(api.TTuple, 1), from(0, 9)), []api.Value{tuple(one), tuple(marked), label(tuple(label(one, "B")), "A")}, nil)
}

// P8.1: types that lead back to themselves through each kind of node with parts.
func TestRecursion(t *testing.T) {
	digit := integer(3)
	lists := graph(kind(api.TUnion, 1, 2), kind(api.TNil), kind(api.TCons, 3, 0), from(0, 9))
	expect(t, "digits", lists, []api.Value{list(), list(digit), list(digit, integer(9), integer(0))}, []api.Value{digit, list(integer(10)), list(digit, digit, atom("a")), list(list()), tuple(digit)})
	trees := graph(kind(api.TUnion, 1, 2), from(0, 9), kind(api.TTuple, 0, 0))
	expect(t, "trees", trees, []api.Value{digit, tuple(digit, digit), tuple(tuple(digit, digit), digit)}, []api.Value{tuple(), tuple(digit), tuple(digit, tuple(digit, atom("a"))), integer(10)})
	maps0 := graph(record(0, 1, optional("a", 0)), kind(api.TNone))
	expect(t, "maps", maps0, []api.Value{dict(), dict("a", dict()), dict("a", dict("a", dict()), "b", dict("c", dict()))}, []api.Value{digit, dict("a", digit), dict("b", dict("c", dict("d", digit))), dict("a", dict("\"a", dict()))})
	functions := graph(kind(api.TFun, 0, 0))
	inside := fun(1, maps(digit, digit))
	expect(t, "functions", functions, []api.Value{fun(1), inside, fun(1, maps(inside, inside)), fun(1, fails(digit)), fun(1, fails(fun(1, fails(fun(1)))))}, []api.Value{digit, fun(0), fun(1, fails(fun(1))), fun(1, maps(inside, digit)), fun(1, maps(inside, fun(1, fails(inside))))})
	both := graph(kind(api.TInter, 1, 3), kind(api.TNot, 2), kind(api.TTuple), kind(api.TUnion, 4, 5), kind(api.TTuple, 0), from(0, 9))
	expect(t, "connectives", both, []api.Value{digit, tuple(digit), tuple(tuple(digit))}, []api.Value{tuple(), tuple(tuple()), tuple(tuple(tuple())), integer(10), tuple(digit, digit)})
	flip := graph(kind(api.TNot, 1), kind(api.TTuple, 0))
	expect(t, "not", flip, []api.Value{digit, tuple(), tuple(digit, digit), tuple(tuple(digit)), tuple(tuple(tuple()))}, []api.Value{tuple(digit), tuple(tuple()), tuple(tuple(tuple(digit)))})
	expect(t, "nothing ends", graph(kind(api.TTuple, 0)), nil, []api.Value{tuple(), tuple(tuple()), tuple(tuple(tuple(digit))), digit})
	evens := graph(kind(api.TUnion, 2, 3), kind(api.TCons, 4, 0), kind(api.TNil), kind(api.TCons, 4, 1), kind(api.TAny))
	expect(t, "lists of even length", evens, []api.Value{list(), list(digit, digit), list(digit, digit, digit, digit)}, []api.Value{list(digit), list(digit, digit, digit), list(digit, digit, digit, digit, digit)})
}

// P8.1: MemberOf at each node, whether the root leads to it or not.
func TestMemberOf(t *testing.T) {
	x := api.Type{Root: 1, Nodes: []api.TypeNode{kind(api.TAtoms), kind(api.TTuple, 2), from(0, 9), kind(api.TNot, 4), kind(api.TTuple, 3), kind(api.TNone)}}
	for _, c := range []struct {
		v  api.Value
		at []bool
	}{
		{atom("a"), []bool{true, false, false, true, false, false}},
		{tuple(integer(1)), []bool{false, true, false, false, true, false}},
		{integer(1), []bool{false, false, true, true, false, false}},
		{tuple(tuple(integer(1))), []bool{false, false, false, true, false, false}},
		{tuple(), []bool{false, false, false, true, false, false}},
	} {
		for node, is := range c.at {
			if member.MemberOf(c.v, x, node) != is {
				t.Error(c.v, node)
			}
		}
		if member.Member(c.v, x) != c.at[1] {
			t.Error(c.v)
		}
		for _, node := range []int{-1, len(x.Nodes), len(x.Nodes) + 1, least, greatest} {
			if member.MemberOf(c.v, x, node) {
				t.Error(c.v, node)
			}
		}
	}
}
