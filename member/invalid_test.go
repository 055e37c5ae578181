package member_test

import (
	"testing"

	"semtype/api"
	"semtype/member"
	"semtype/samples"
	"semtype/typeexpr"
	"semtype/value"
)

// P8.1, P8.3: nothing is a member, and nothing is explained, where the value, the type or the node does not count.
func TestInvalid(t *testing.T) {
	for i, v := range samples.InvalidValues() {
		if value.Validate(v) == api.OK {
			t.Fatalf("value %d is valid", i)
		}
		for _, x := range []api.Type{typeexpr.Any(), typeexpr.None(), graph(kind(api.TNot, 1), kind(api.TNone)), graph(kind(api.TTuples)), graph(kind(api.TAtoms)), graph(from(least, greatest)), lists(), {}, graph(kind(api.TNot, 0))} {
			if member.Member(v, x) || member.MemberOf(v, x, 0) || member.MemberOf(v, x, -1) || len(member.Explain(v, x)) > 0 {
				t.Error(v, x)
			}
		}
	}
	for i, x := range samples.InvalidTypes() {
		if typeexpr.WellFormed(x) == api.OK {
			t.Fatalf("type %d is well-formed", i)
		}
		for _, v := range []api.Value{integer(0), tuple(), list(integer(1)), dict("a", integer(1)), fun(1, fails(integer(1))), {}} {
			if member.Member(v, x) || len(member.Explain(v, x)) > 0 {
				t.Error(v, x)
			}
			for node := range len(x.Nodes) + 2 {
				if member.MemberOf(v, x, node-1) {
					t.Error(v, x, node-1)
				}
			}
		}
	}
}

func lists() api.Type { return typeexpr.ListOf(typeexpr.Any()) }
