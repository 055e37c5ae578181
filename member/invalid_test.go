package member_test

import (
	"slices"
	"strings"
	"testing"

	"semtype/api"
	"semtype/member"
	"semtype/typeexpr"
	"semtype/value"
)

// invalidValues returns values that break each condition of chapter 4, at the root and in parts.
func invalidValues() []api.Value {
	one, bad := integer(1), atom("A")
	swapped := fun(1, maps(one, one), fails(one))
	slices.Reverse(swapped.Entries)
	return []api.Value{
		{}, {Kind: -1}, {Kind: api.VFun + 1}, bad, atom(""), str(strings.Repeat("x", api.MaxText+1)), value.Pid(-1), {Kind: api.VInt, Text: "a"}, {Kind: api.VNil, Int: 1}, {Kind: api.VAtom, Text: "a", Kids: []api.Value{one}},
		label(one, "a"), {Kind: api.VInt, Labels: []string{"B", "A"}}, {Kind: api.VInt, Labels: []string{"A", "A"}}, tuple(one, one, one, one, one), tuple(bad), tuple(tuple(bad)),
		value.Cons(one, one), value.Cons(one, tuple()), {Kind: api.VCons, Kids: []api.Value{one}}, {Kind: api.VCons}, list(one, bad), value.Cons(one, api.Value{Kind: api.VCons}),
		{Kind: api.VMap, Keys: []api.Key{key("a")}}, {Kind: api.VMap, Kids: []api.Value{one}}, {Kind: api.VMap, Keys: []api.Key{key("b"), key("a")}, Kids: []api.Value{one, one}}, {Kind: api.VMap, Keys: []api.Key{{Kind: 7, Text: "a"}}, Kids: []api.Value{one}}, dict("a", bad),
		{Kind: api.VFun, Int: -1}, {Kind: api.VFun, Int: 5}, {Kind: api.VFun, Int: greatest}, {Kind: api.VFun, Int: 1, Entries: []api.Entry{{}}}, {Kind: api.VFun, Entries: []api.Entry{maps(one, one)}}, {Kind: api.VFun, Entries: []api.Entry{{Fails: true, Result: one}}},
		{Kind: api.VFun, Entries: []api.Entry{maps(one), maps(one)}}, swapped, fun(1, maps(bad, one)), fun(1, maps(one, bad)), fun(1, fails(bad)),
	}
}

// invalidTypes returns types that break each condition of chapter 7, mostly at nodes that the root does not lead to.
func invalidTypes() []api.Type {
	all := kind(api.TAny)
	return []api.Type{
		{}, {Root: 1, Nodes: []api.TypeNode{all}}, {Root: -1, Nodes: []api.TypeNode{all}}, {Root: least, Nodes: []api.TypeNode{all}}, graph(kind(0)), graph(kind(api.TVar + 1)), graph(all, kind(0)), graph(all, kind(api.TAny, 0)),
		graph(kind(api.TUnion), all), graph(kind(api.TInter), all), graph(kind(api.TNot), all), graph(kind(api.TNot, 1, 1), all), graph(kind(api.TUnion, 0), all), graph(kind(api.TNot, 0), all), graph(kind(api.TUnion, 1, 0), all), graph(all, kind(api.TNot, 2), kind(api.TInter, 1, 0)),
		graph(kind(api.TUnion, 0, 1), all, kind(api.TTuple, 9)), graph(all, kind(api.TTuple, -1)), graph(all, kind(api.TTuple, 0, 0, 0, 0, 0)), graph(all, kind(api.TCons, 0)), graph(all, kind(api.TFun)), graph(all, kind(api.TFun, 0, 0, 0, 0, 0, 0)),
		graph(all, from(1, 0)), graph(all, text(api.TString, strings.Repeat("x", api.MaxText+1))), graph(all, text(api.TAtom, "A")), graph(all, text(api.TVar, "a")), graph(all, record(0, 2)), graph(all, record(-1, 0)), graph(all, record(0, 0, field("a", 2))),
		graph(all, record(0, 0, field("b", 0), field("a", 0))), graph(all, record(0, 0, field("a", 0), optional("a", 0))), graph(all, record(0, 0, field("A", 0))), graph(kind(api.TNot, 1), kind(api.TNone), kind(-1)),
	}
}

// P8.1, P8.3: nothing is a member, and nothing is explained, where the value, the type or the node does not count.
func TestInvalid(t *testing.T) {
	for i, v := range invalidValues() {
		if value.Validate(v) == api.OK {
			t.Fatalf("value %d is valid", i)
		}
		for _, x := range []api.Type{typeexpr.Any(), typeexpr.None(), graph(kind(api.TNot, 1), kind(api.TNone)), graph(kind(api.TTuples)), graph(kind(api.TAtoms)), graph(from(least, greatest)), lists(), {}, graph(kind(api.TNot, 0))} {
			if member.Member(v, x) || member.MemberOf(v, x, 0) || member.MemberOf(v, x, -1) || len(member.Explain(v, x)) > 0 {
				t.Error(v, x)
			}
		}
	}
	for i, x := range invalidTypes() {
		if typeexpr.WellFormed(x) == api.OK {
			t.Fatalf("type %d is well-formed", i)
		}
		for _, v := range []api.Value{integer(0), tuple(), list(integer(1)), dict("a", integer(1)), fun(1, fails(integer(1))), {}} {
			if member.Member(v, x) || len(member.Explain(v, x)) > 0 {
				t.Error(v, x)
			}
			for node := range len(x.Nodes) + 2 {
				if member.MemberOf(v, x, node-1) {
					t.Error(v, x, node-1)
				}
			}
		}
	}
}

func lists() api.Type { return typeexpr.ListOf(typeexpr.Any()) }
