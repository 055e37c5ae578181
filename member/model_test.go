package member_test

import (
	"math/rand"
	"slices"
	"testing"

	"semtype/api"
	"semtype/member"
	"semtype/samples"
	"semtype/typeexpr"
)

// chapter8 follows the words of the chapter for one node, and asks MemberOf about the parts.
func chapter8(v api.Value, x api.Type, n int) bool {
	node := x.Nodes[n]
	in := func(v api.Value, n int) bool { return member.MemberOf(v, x, n) }
	kids := func(k int) bool { return v.Kind == k && slices.EqualFunc(v.Kids, node.Kids, in) }
	plain := map[int]int{api.TStrings: api.VString, api.TAtoms: api.VAtom, api.TPid: api.VPid, api.TNil: api.VNil, api.TTuples: api.VTuple, api.TFuns: api.VFun}
	switch node.Kind {
	case api.TNone, api.TAny:
		return node.Kind == api.TAny
	case api.TInt:
		return v.Kind == api.VInt && node.Lo <= v.Int && v.Int <= node.Hi
	case api.TString, api.TAtom:
		return v.Kind == map[int]int{api.TString: api.VString, api.TAtom: api.VAtom}[node.Kind] && v.Text == node.Text
	case api.TTuple:
		return kids(api.VTuple)
	case api.TCons:
		return kids(api.VCons)
	case api.TMap:
		return v.Kind == api.VMap && chapter8Map(v, node, in)
	case api.TFun:
		return v.Kind == api.VFun && int(v.Int)+1 == len(node.Kids) && chapter8Function(v, node, in)
	case api.TUnion:
		return slices.ContainsFunc(node.Kids, func(n int) bool { return in(v, n) })
	case api.TInter:
		return !slices.ContainsFunc(node.Kids, func(n int) bool { return !in(v, n) })
	case api.TNot:
		return !in(v, node.Kids[0])
	case api.TVar:
		return slices.Contains(v.Labels, node.Text)
	}
	return v.Kind == plain[node.Kind]
}

func chapter8Map(v api.Value, node api.TypeNode, in func(api.Value, int) bool) bool {
	others := map[api.Key]api.Value{}
	for i, k := range v.Keys {
		others[k] = v.Kids[i]
	}
	for _, f := range node.Fields {
		part, there := others[f.Key]
		if there && !in(part, f.Node) || !there && !f.Optional {
			return false
		}
		delete(others, f.Key)
	}
	for k, part := range others {
		if k.Kind == api.KeyAtom && !in(part, node.Rest[0]) || k.Kind == api.KeyString && !in(part, node.Rest[1]) {
			return false
		}
	}
	return true
}

func chapter8Function(v api.Value, node api.TypeNode, in func(api.Value, int) bool) bool {
	n := len(node.Kids) - 1
	for _, e := range v.Entries {
		if slices.EqualFunc(e.Args, node.Kids[:n], in) && (e.Fails || !in(e.Result, node.Kids[n])) {
			return false
		}
	}
	return true
}

// P8.1: every node of random types has the members that the chapter says, and every value is a member of it or of its complement.
func TestRandomTypes(t *testing.T) {
	values, r := samples.Values(), rand.New(rand.NewSource(8))
	found := map[bool]int{}
	for range 150 {
		x := samples.RandomType(r, 1+r.Intn(8))
		if code := typeexpr.WellFormed(x); code != api.OK {
			t.Fatal(x, code)
		}
		not := x
		not.Nodes, not.Root = append(slices.Clone(x.Nodes), kind(api.TNot, x.Root)), len(x.Nodes)
		for _, v := range values {
			for n := range x.Nodes {
				if member.MemberOf(v, x, n) != chapter8(v, x, n) {
					t.Fatalf("%v at %d of %v", v, n, x)
				}
			}
			is := member.Member(v, x)
			found[is]++
			if is != member.MemberOf(v, x, x.Root) || is == member.Member(v, not) {
				t.Fatalf("%v at the root of %v", v, x)
			}
			if path := member.Explain(v, x); is && len(path) > 0 || !is && !explains(path, v, x) {
				t.Fatalf("%v explains %v for %v", path, v, x)
			}
		}
	}
	if found[true] < 2000 || found[false] < 2000 {
		t.Error(found)
	}
}
