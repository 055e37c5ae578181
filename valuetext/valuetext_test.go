package valuetext_test

import (
	"fmt"
	"strings"
	"testing"

	"semtype/api"
	"semtype/value"
	"semtype/valuetext"
)

// The tests write values as trees of api.Value, so that they do not rest on the constructors of package value.
func integer(n int64, labels ...string) api.Value {
	return api.Value{Kind: api.VInt, Int: n, Labels: labels}
}

func str(s string) api.Value { return api.Value{Kind: api.VString, Text: s} }

func atom(s string) api.Value { return api.Value{Kind: api.VAtom, Text: s} }

func pid(n int64) api.Value { return api.Value{Kind: api.VPid, Int: n} }

func empty(labels ...string) api.Value { return api.Value{Kind: api.VNil, Labels: labels} }

func tuple(kids ...api.Value) api.Value { return api.Value{Kind: api.VTuple, Kids: kids} }

func pair(head, tail api.Value, labels ...string) api.Value {
	return api.Value{Kind: api.VCons, Kids: []api.Value{head, tail}, Labels: labels}
}

func labelled(v api.Value, labels ...string) api.Value {
	v.Labels = labels
	return v
}

func atomKey(s string) api.Key { return api.Key{Kind: api.KeyAtom, Text: s} }

func stringKey(s string) api.Key { return api.Key{Kind: api.KeyString, Text: s} }

func record(keys []api.Key, kids ...api.Value) api.Value {
	return api.Value{Kind: api.VMap, Keys: keys, Kids: kids}
}

// under is the map that has v for the one key a.
func under(v api.Value) api.Value { return record([]api.Key{atomKey("a")}, v) }

func fun(arity int64, entries ...api.Entry) api.Value {
	return api.Value{Kind: api.VFun, Int: arity, Entries: entries}
}

func maps(result api.Value, args ...api.Value) api.Entry {
	return api.Entry{Args: args, Result: result}
}

func fails(args ...api.Value) api.Entry { return api.Entry{Args: args, Fails: true} }

// show writes all fields of v; nil and empty lists look the same (R3).
func show(v api.Value) string {
	l := []string{fmt.Sprintf("%d %d %q %q", v.Kind, v.Int, v.Text, v.Labels)}
	for _, k := range v.Keys {
		l = append(l, fmt.Sprintf("key %d %q", k.Kind, k.Text))
	}
	for _, kid := range v.Kids {
		l = append(l, show(kid))
	}
	for _, e := range v.Entries {
		l = append(l, fmt.Sprint("entry ", len(e.Args), e.Fails))
		for _, arg := range e.Args {
			l = append(l, show(arg))
		}
		l = append(l, show(e.Result))
	}
	return "<" + strings.Join(l, ", ") + ">"
}

// notated is a valid value with its notation.
type notated struct {
	s string
	v api.Value
}

func leaves() []notated {
	long := strings.Repeat("x", api.MaxText)
	return []notated{
		{"0", integer(0)}, {"7", integer(7)}, {"-1", integer(-1)}, {"120", integer(120)}, {"9223372036854775807", integer(1<<63 - 1)}, {"-9223372036854775808", integer(-1 << 63)},
		{`""`, str("")}, {`"a"`, str("a")}, {`"a b"`, str("a b")}, {`"\"\\"`, str(`"\`)}, {`"\\\\\""`, str(`\\"`)}, {`"\x00\x7f\xff\x0a"`, str("\x00\x7f\xff\n")}, {`"x41"`, str("x41")}, {`"\xc3\xa9"`, str("é")},
		{`"]}@(A), !"`, str("]}@(A), !")}, {`"` + long + `"`, str(long)}, {`"` + strings.Repeat(`\x01`, api.MaxText) + `"`, str(strings.Repeat("\x01", api.MaxText))},
		{"a", atom("a")}, {"ok", atom("ok")}, {"fun", atom("fun")}, {"funny", atom("funny")}, {"a_1z", atom("a_1z")}, {"abcdefghij_01234", atom("abcdefghij_01234")},
		{"#0", pid(0)}, {"#12", pid(12)}, {"#9223372036854775807", pid(1<<63 - 1)},
		{"[]", empty()}, {"{}", tuple()}, {"%{}", record(nil)}, {"fun/0{}", fun(0)}, {"fun/1{}", fun(1)}, {"fun/4{}", fun(4)},
	}
}

func labelledValues() []notated {
	one := integer(1)
	return []notated{
		{"1@(A)", integer(1, "A")}, {"-1@(A B Bc)", integer(-1, "A", "B", "Bc")}, {`"a"@(A)`, labelled(str("a"), "A")}, {"a@(Z_9z)", labelled(atom("a"), "Z_9z")}, {"#3@(Abcdefghij_01234)", labelled(pid(3), "Abcdefghij_01234")},
		{"[]@(A)", empty("A")}, {"[]@(A B)", empty("A", "B")}, {"{}@(A)", labelled(tuple(), "A")}, {"%{}@(A)", labelled(record(nil), "A")}, {"fun/0{}@(A B)", labelled(fun(0), "A", "B")},
		{"{1@(A), {1@(B)}@(C D)}@(E)", labelled(tuple(integer(1, "A"), labelled(tuple(integer(1, "B")), "C", "D")), "E")},
		{"%{a: 1@(A)}@(B)", labelled(under(integer(1, "A")), "B")}, {"[1@(A)]", pair(integer(1, "A"), empty())}, {"[1@(A), 2@(B)]@(C)", pair(integer(1, "A"), pair(integer(2, "B"), empty()), "C")},
		{"fun/1{(1@(A)) -> 2@(B), (1@(C)) -> !}@(D)", labelled(fun(1, maps(integer(2, "B"), integer(1, "A")), fails(integer(1, "C"))), "D")}, {"fun/0{() -> fun/0{() -> 1}@(A)}", fun(0, maps(labelled(fun(0, maps(one)), "A")))},
	}
}

func lists() []notated {
	one, two, three := integer(1), integer(2), integer(3)
	return []notated{
		{"[1, a]", pair(one, pair(atom("a"), empty()))}, {"[1 | [a]@(B)]", pair(one, pair(atom("a"), empty(), "B"))}, // example 1
		{"[1]", pair(one, empty())}, {"[1, 2, 3]", pair(one, pair(two, pair(three, empty())))}, {"[[]]", pair(empty(), empty())}, {"[[], []]", pair(empty(), pair(empty(), empty()))}, {"[[1, 2], 3]", pair(pair(one, pair(two, empty())), pair(three, empty()))},
		{"[1 | []@(A)]", pair(one, empty("A"))}, {"[1, 2 | []@(A B)]", pair(one, pair(two, empty("A", "B")))}, {"[1]@(A)", pair(one, empty(), "A")}, {"[1, 2]@(A)", pair(one, pair(two, empty()), "A")}, {"[1 | []@(A)]@(B)", pair(one, empty("A"), "B")},
		{"[1, 2 | [3]@(A)]", pair(one, pair(two, pair(three, empty(), "A")))}, {"[1 | [2, 3]@(A)]", pair(one, pair(two, pair(three, empty()), "A"))}, {"[1 | [2 | [3]@(A)]@(B)]", pair(one, pair(two, pair(three, empty(), "A"), "B"))},
		{"[1 | [2 | []@(A)]@(B)]@(C)", pair(one, pair(two, empty("A"), "B"), "C")}, {"[1, 2 | [3, 1 | []@(A)]@(B)]", pair(one, pair(two, pair(three, pair(one, empty("A")), "B")))}, {"[[1 | []@(A)]@(B)]", pair(pair(one, empty("A"), "B"), empty())},
		{"[[]@(A)]", pair(empty("A"), empty())}, {"[[1]@(A), 2]", pair(pair(one, empty(), "A"), pair(two, empty()))}, {`["]", " | "]`, pair(str("]"), pair(str(" | "), empty()))},
	}
}

func containers() []notated {
	one, two := integer(1), integer(2)
	keys := []api.Key{atomKey("a"), atomKey("ab"), atomKey("fun"), stringKey(""), stringKey("\""), stringKey("a: 1")}
	long := api.Key{Kind: api.KeyString, Text: strings.Repeat("y", api.MaxText)}
	return []notated{
		{"{1}", tuple(one)}, {"{1, 2}", tuple(one, two)}, {"{1, 2, a, []}", tuple(one, two, atom("a"), empty())}, {"{{}}", tuple(tuple())}, {"{{1}, {{2}, %{}}}", tuple(tuple(one), tuple(tuple(two), record(nil)))},
		{"%{a: 1}", under(one)}, {"%{a: %{a: [1]}}", under(under(pair(one, empty())))}, {`%{"": 1}`, record([]api.Key{stringKey("")}, one)}, {`%{"\x00": {}}`, record([]api.Key{stringKey("\x00")}, tuple())},
		{`%{a: 1, ab: 2, fun: [], "": %{}, "\"": "", "a: 1": fun/0{}}`, record(keys, one, two, empty(), record(nil), str(""), fun(0))}, {`%{"` + long.Text + `": 1}`, record([]api.Key{long}, one)}, {"%{abcdefghij_01234: 1}", record([]api.Key{atomKey("abcdefghij_01234")}, one)},
		{"fun/1{(1) -> !, (2) -> ok}", fun(1, fails(one), maps(atom("ok"), two))}, // example 2
		{"fun/0{() -> !}", fun(0, fails())}, {"fun/0{() -> 1}", fun(0, maps(one))}, {"fun/0{() -> !, () -> 1, () -> 2}", fun(0, fails(), maps(one), maps(two))}, {"fun/1{(1) -> 1, (1) -> 2}", fun(1, maps(one, one), maps(two, one))},
		{"fun/2{(1, 1) -> 2, (1, 2) -> !, (2, 1) -> 1}", fun(2, maps(two, one, one), fails(one, two), maps(one, two, one))}, {"fun/4{(1, 2, {}, a) -> []}", fun(4, maps(empty(), one, two, tuple(), atom("a")))},
		{"fun/1{(fun/1{(1) -> !}) -> fun/0{() -> !}}", fun(1, maps(fun(0, fails()), fun(1, fails(one))))}, {"fun/1{({1, 2}) -> !, ([1, 2]) -> %{a: {1}}}", fun(1, fails(tuple(one, two)), maps(under(tuple(one)), pair(one, pair(two, empty()))))},
	}
}

// valid returns valid values of all kinds, each also inside of other values.
func valid() []notated {
	l := append(append(append(leaves(), labelledValues()...), lists()...), containers()...)
	all := append([]notated{}, l...)
	for _, n := range l {
		all = append(all, insideOthers(n)...)
	}
	return all
}

// insideOthers puts n into each place that a value of any kind may have.
func insideOthers(n notated) []notated {
	one, v := integer(1), n.v
	return []notated{
		{"{1, " + n.s + "}", tuple(one, v)}, {"{" + n.s + ", 1}@(A)", labelled(tuple(v, one), "A")}, {"[1, " + n.s + ", 1]", pair(one, pair(v, pair(one, empty())))}, {"[" + n.s + " | []@(A)]", pair(v, empty("A"))}, {"[1 | [" + n.s + "]@(A)]", pair(one, pair(v, empty(), "A"))},
		{"%{a: " + n.s + "}", under(v)}, {`%{a: 1, "b": ` + n.s + "}", record([]api.Key{atomKey("a"), stringKey("b")}, one, v)}, {"fun/1{(" + n.s + ") -> !}", fun(1, fails(v))}, {"fun/2{(1, " + n.s + ") -> " + n.s + "}", fun(2, maps(v, one, v))},
		{"fun/0{() -> !, () -> {" + n.s + "}}", fun(0, fails(), maps(tuple(v)))}, {"fun/1{(%{a: [fun/0{() -> " + n.s + "}]}) -> 1}", fun(1, maps(one, under(pair(fun(0, maps(v)), empty()))))},
	}
}

// P5.1, P5.2: each kind of value, with and without parts and labels, and the chapter's examples.
func TestFormat(t *testing.T) {
	for _, n := range valid() {
		if got := valuetext.Format(n.v); got != n.s {
			t.Errorf("Format(%s) = %s, want %s", show(n.v), got, n.s)
		}
	}
}

// P5.1: nil and empty lists are the same (R3).
func TestFormatOfEmptyLists(t *testing.T) {
	full := api.Value{Kind: api.VFun, Labels: []string{}, Kids: []api.Value{}, Keys: []api.Key{}, Entries: []api.Entry{{Args: []api.Value{}, Fails: true, Result: api.Value{Kids: []api.Value{}, Labels: []string{}}}}}
	for want, v := range map[string]api.Value{"fun/0{() -> !}": full, "{}": {Kind: api.VTuple, Kids: []api.Value{}, Labels: []string{}}, "[1]": pair(integer(1), api.Value{Kind: api.VNil, Kids: []api.Value{}, Labels: []string{}})} {
		if got := valuetext.Format(v); got != want {
			t.Errorf("Format = %s, want %s", got, want)
		}
	}
}

func invalidValues() []api.Value {
	one, two := integer(1), integer(2)
	dark := api.Entry{Args: []api.Value{one}, Fails: true, Result: one}
	a, b := atomKey("a"), atomKey("b")
	return []api.Value{
		{}, {Kind: -1}, {Kind: api.VFun + 1}, {Text: "a"}, {Kind: api.VInt, Text: "a"}, {Kind: api.VNil, Int: 1}, {Kind: api.VAtom, Text: "a", Int: 1}, {Kind: api.VInt, Kids: []api.Value{one}},
		integer(1, ""), integer(1, "a"), integer(1, "A b"), integer(1, "B", "A"), integer(1, "A", "A"), integer(1, strings.Repeat("A", api.MaxName+1)),
		str(strings.Repeat("x", api.MaxText+1)), atom(""), atom("A"), atom("1"), atom("a b"), atom(strings.Repeat("a", api.MaxName+1)), pid(-1), tuple(one, one, one, one, one),
		{Kind: api.VCons}, {Kind: api.VCons, Kids: []api.Value{one}}, {Kind: api.VCons, Kids: []api.Value{one, empty(), empty()}}, pair(one, two), pair(one, tuple()), pair(one, pair(two, integer(3, "A"))), pair(one, pair(two, empty("B", "A"))),
		record([]api.Key{a}), record(nil, one), record([]api.Key{a, b}, one), record([]api.Key{b, a}, one, two), record([]api.Key{a, a}, one, two), record([]api.Key{atomKey("B")}, one), record([]api.Key{{Kind: 2, Text: "a"}}, one), record([]api.Key{stringKey(strings.Repeat("x", api.MaxText+1))}, one),
		fun(-1), fun(api.MaxArity + 1), fun(1, fails()), fun(0, fails(one)), fun(1, fails(one, two)), fun(1, fails(two), fails(one)), fun(1, fails(one), fails(one)), fun(1, maps(one, one), fails(one)), fun(1, dark), fun(0, maps(api.Value{})),
	}
}

// P5.1: a value that is not valid, at the root and deep inside.
func TestFormatOfInvalidValues(t *testing.T) {
	for _, v := range invalidValues() {
		places := []notated{{"", v}, {"", pair(integer(1), v)}}
		for _, n := range insideOthers(notated{"", v}) {
			places = append(append(places, n), insideOthers(n)...)
		}
		for _, n := range places {
			if got := valuetext.Format(n.v); got != "" || value.Validate(n.v) == api.OK {
				t.Errorf("Format(%s) = %q", show(n.v), got)
			}
		}
	}
}
