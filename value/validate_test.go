package value_test

import (
	"strings"
	"testing"

	"semtype/api"
	"semtype/value"
)

func str(s string) api.Value { return api.Value{Kind: api.VString, Text: s} }

func atom(s string) api.Value { return api.Value{Kind: api.VAtom, Text: s} }

func pid(n int64) api.Value { return api.Value{Kind: api.VPid, Int: n} }

func validValues() []api.Value {
	one, two := integer(1), integer(2)
	manyKeys, many := []api.Key{}, []api.Value{}
	for i := range api.MaxFields + 5 {
		manyKeys, many = append(manyKeys, stringKey(strings.Repeat("x", i))), append(many, one)
	}
	return []api.Value{
		one, integer(0), integer(-1 << 63), integer(1<<63 - 1), integer(1, "A"), integer(1, "A", "Aa", "B", "Zz_9"), integer(1, strings.Repeat("X", api.MaxName)),
		str(""), str("a b\x00\xff"), str(strings.Repeat("x", api.MaxText)), labelled(str(""), "A"), atom("a"), atom("a_0Zz"[:3]), atom(strings.Repeat("z", api.MaxName)), pid(0), pid(7), pid(1<<63 - 1), empty(), labelled(empty(), "B"),
		node(api.VTuple), node(api.VTuple, one), node(api.VTuple, one, two, one, empty()), labelled(node(api.VTuple, integer(1, "B")), "A"),
		pair(one, empty()), pair(one, labelled(pair(two, labelled(empty(), "A")), "B")), pair(pair(one, empty()), pair(empty(), empty())), pair(fun(0), empty()),
		record(nil), record([]api.Key{atomKey("a")}, one), record([]api.Key{atomKey("a"), atomKey("b"), stringKey(""), stringKey("a")}, one, record(nil), one, empty()), record(manyKeys, many...),
		record([]api.Key{stringKey(strings.Repeat("x", api.MaxText))}, one), record([]api.Key{atomKey(strings.Repeat("x", api.MaxName))}, one),
		fun(0), fun(api.MaxArity), fun(0, fails()), fun(0, maps(one)), fun(0, fails(), maps(one), maps(two)), fun(1, fails(one), maps(one, one), maps(two, one), fails(two)), labelled(fun(0), "A"),
		fun(api.MaxArity, maps(one, one, one, one, one)), fun(1, maps(fun(1, fails(one)), fun(0))), fun(1, maps(one, one), maps(one, integer(1, "A"))), fun(2, maps(one, one, two), maps(one, two, one)),
		fun(1, api.Entry{Args: []api.Value{one}, Fails: true, Result: api.Value{Kids: []api.Value{}, Keys: []api.Key{}}}),
	}
}

// P4.3: each kind, at the limits.
func TestValidValues(t *testing.T) {
	for _, v := range validValues() {
		for _, wrap := range validWraps() {
			if code := value.Validate(wrap(v)); code != api.OK {
				t.Errorf("%s: %v", show(wrap(v)), code)
			}
		}
	}
}

// validWraps are the places in which a value of any kind may stand.
func validWraps() []func(api.Value) api.Value {
	return append(wraps(), func(v api.Value) api.Value {
		return fun(1, fails(pair(record([]api.Key{stringKey("")}, node(api.VTuple, empty(), fun(0, maps(v)))), empty())))
	})
}

func invalidValues() []api.Value {
	one, two := integer(1), integer(2)
	failsWith := func(result api.Value, args ...api.Value) api.Entry {
		return api.Entry{Args: args, Fails: true, Result: result}
	}
	return []api.Value{
		{}, {Kind: -1}, {Kind: api.VFun + 1}, {Kind: 1 << 40}, {Text: "a"}, node(0, one),
		integer(1, ""), integer(1, "a"), integer(1, "A", "A"), integer(1, "B", "A"), integer(1, "A", "b"), integer(1, "A", "B", "B"), integer(1, "A b"), integer(1, strings.Repeat("X", api.MaxName+1)), labelled(empty(), "0"),
		str(strings.Repeat("x", api.MaxText+1)), atom(""), atom("A"), atom("a b"), atom("_"), atom(strings.Repeat("z", api.MaxName+1)), pid(-1), pid(-1 << 63),
		node(api.VTuple, one, one, one, one, one), node(api.VTuple, one, one, one, one, one, one),
		node(api.VCons), node(api.VCons, one), node(api.VCons, empty()), node(api.VCons, one, empty(), empty()), pair(one, one), pair(empty(), node(api.VTuple)), pair(one, api.Value{}), pair(one, pair(one, one)), pair(one, record(nil)), pair(one, str("")),
		record(nil, one), record([]api.Key{atomKey("a")}), record([]api.Key{atomKey("a")}, one, one), record([]api.Key{atomKey("a"), atomKey("b")}, one),
		record([]api.Key{atomKey("A")}, one), record([]api.Key{atomKey("")}, one), record([]api.Key{{Kind: 2, Text: "a"}}, one), record([]api.Key{{Kind: -1, Text: "a"}}, one), record([]api.Key{stringKey(strings.Repeat("x", api.MaxText+1))}, one),
		record([]api.Key{atomKey("a"), atomKey("a")}, one, two), record([]api.Key{atomKey("b"), atomKey("a")}, one, two), record([]api.Key{stringKey("a"), atomKey("b")}, one, two), record([]api.Key{atomKey("a"), stringKey("b"), stringKey("b")}, one, two, one),
		fun(-1), fun(api.MaxArity + 1), fun(-1 << 63), fun(1<<63 - 1), fun(5, maps(one, one, one, one, one, one)), fun(-1, fails()),
		fun(0, maps(one, one)), fun(1, maps(one)), fun(1, fails()), fun(1, fails(one, one)), fun(2, maps(one, one), maps(one, one, one)), fun(1, fails(one), fails(one, one)),
		fun(0, fails(), fails()), fun(0, maps(one), maps(one)), fun(0, maps(two), maps(one)), fun(0, maps(one), fails()), fun(1, maps(one, two), maps(one, one)), fun(1, fails(one), fails(two), fails(two)), fun(1, maps(one, integer(1, "A")), maps(one, one)),
		fun(0, failsWith(one)), fun(0, failsWith(api.Value{Int: 1})), fun(0, failsWith(api.Value{Labels: []string{"A"}})), fun(0, failsWith(empty())), fun(1, failsWith(node(api.VTuple, one), one)), fun(0, maps(api.Value{})), fun(0, fails(), maps(api.Value{})),
	}
}

// P4.3: each way to be invalid, at the root and deep inside of other values.
func TestInvalidValues(t *testing.T) {
	for _, v := range invalidValues() {
		for _, wrap := range validWraps() {
			if code := value.Validate(wrap(v)); code != api.ErrInvalid {
				t.Errorf("%s: %v", show(wrap(v)), code)
			}
		}
	}
}

// P4.3: a field that the kind does not use makes a node invalid, and a field that it uses does not.
func TestUnusedFields(t *testing.T) {
	one := integer(1)
	plain := []api.Value{one, str("a"), atom("a"), pid(1), empty(), node(api.VTuple, one), pair(one, empty()), record([]api.Key{atomKey("a")}, one), fun(1, fails(one))}
	fields := []struct {
		name   string
		unused []int
		set    func(*api.Value)
	}{
		{"Int", []int{api.VString, api.VAtom, api.VNil, api.VTuple, api.VCons, api.VMap}, func(v *api.Value) { v.Int = 1 }},
		{"negative Int", []int{api.VString, api.VAtom, api.VPid, api.VNil, api.VTuple, api.VCons, api.VMap, api.VFun}, func(v *api.Value) { v.Int = -1 }},
		{"Text", []int{api.VInt, api.VPid, api.VNil, api.VTuple, api.VCons, api.VMap, api.VFun}, func(v *api.Value) { v.Text = "a" }},
		{"Kids", []int{api.VInt, api.VString, api.VAtom, api.VPid, api.VNil, api.VFun}, func(v *api.Value) { v.Kids = append([]api.Value{one}, v.Kids[min(1, len(v.Kids)):]...) }},
		{"Keys", []int{api.VInt, api.VString, api.VAtom, api.VPid, api.VNil, api.VTuple, api.VCons, api.VFun}, func(v *api.Value) { v.Keys = []api.Key{atomKey("a")} }},
		{"Entries", []int{api.VInt, api.VString, api.VAtom, api.VPid, api.VNil, api.VTuple, api.VCons, api.VMap}, func(v *api.Value) { v.Entries = []api.Entry{fails(one)} }},
	}
	for _, f := range fields {
		for _, v := range plain {
			want := api.OK
			for _, kind := range f.unused {
				if kind == v.Kind {
					want = api.ErrInvalid
				}
			}
			f.set(&v)
			if code := value.Validate(v); code != want {
				t.Errorf("%s: %s: %v", f.name, show(v), code)
			}
		}
	}
}
