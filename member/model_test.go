package member_test

import (
	"math/rand"
	"slices"
	"testing"

	"semtype/api"
	"semtype/member"
	"semtype/typeexpr"
)

// chapter8 follows the words of the chapter for one node, and asks MemberOf about the parts.
func chapter8(v api.Value, x api.Type, n int) bool {
	node := x.Nodes[n]
	in := func(v api.Value, n int) bool { return member.MemberOf(v, x, n) }
	kids := func(k int) bool { return v.Kind == k && slices.EqualFunc(v.Kids, node.Kids, in) }
	plain := map[int]int{api.TStrings: api.VString, api.TAtoms: api.VAtom, api.TPid: api.VPid, api.TNil: api.VNil, api.TTuples: api.VTuple, api.TFuns: api.VFun}
	switch node.Kind {
	case api.TNone, api.TAny:
		return node.Kind == api.TAny
	case api.TInt:
		return v.Kind == api.VInt && node.Lo <= v.Int && v.Int <= node.Hi
	case api.TString, api.TAtom:
		return v.Kind == map[int]int{api.TString: api.VString, api.TAtom: api.VAtom}[node.Kind] && v.Text == node.Text
	case api.TTuple:
		return kids(api.VTuple)
	case api.TCons:
		return kids(api.VCons)
	case api.TMap:
		return v.Kind == api.VMap && chapter8Map(v, node, in)
	case api.TFun:
		return v.Kind == api.VFun && int(v.Int)+1 == len(node.Kids) && chapter8Function(v, node, in)
	case api.TUnion:
		return slices.ContainsFunc(node.Kids, func(n int) bool { return in(v, n) })
	case api.TInter:
		return !slices.ContainsFunc(node.Kids, func(n int) bool { return !in(v, n) })
	case api.TNot:
		return !in(v, node.Kids[0])
	case api.TVar:
		return slices.Contains(v.Labels, node.Text)
	}
	return v.Kind == plain[node.Kind]
}

func chapter8Map(v api.Value, node api.TypeNode, in func(api.Value, int) bool) bool {
	others := map[api.Key]api.Value{}
	for i, k := range v.Keys {
		others[k] = v.Kids[i]
	}
	for _, f := range node.Fields {
		part, there := others[f.Key]
		if there && !in(part, f.Node) || !there && !f.Optional {
			return false
		}
		delete(others, f.Key)
	}
	for k, part := range others {
		if k.Kind == api.KeyAtom && !in(part, node.Rest[0]) || k.Kind == api.KeyString && !in(part, node.Rest[1]) {
			return false
		}
	}
	return true
}

func chapter8Function(v api.Value, node api.TypeNode, in func(api.Value, int) bool) bool {
	n := len(node.Kids) - 1
	for _, e := range v.Entries {
		if slices.EqualFunc(e.Args, node.Kids[:n], in) && (e.Fails || !in(e.Result, node.Kids[n])) {
			return false
		}
	}
	return true
}

// randomType returns a well-formed type: connectives lead to later nodes only, of which the last one has another kind.
func randomType(r *rand.Rand, size int) api.Type {
	x := api.Type{Root: r.Intn(size)}
	for i := range size {
		kinds := []int{api.TNone, api.TAny, api.TInt, api.TString, api.TStrings, api.TAtom, api.TAtoms, api.TPid, api.TNil, api.TTuples, api.TFuns, api.TVar, api.TTuple, api.TCons, api.TMap, api.TFun, api.TTuple, api.TCons, api.TMap, api.TFun, api.TUnion, api.TInter, api.TNot, api.TUnion, api.TInter, api.TNot}
		if i == size-1 {
			kinds = kinds[:20]
		}
		x.Nodes = append(x.Nodes, randomNode(r, kinds[r.Intn(len(kinds))], i, size))
	}
	return x
}

func randomNode(r *rand.Rand, k, i, size int) api.TypeNode {
	count := map[int]int{api.TTuple: r.Intn(3), api.TCons: 2, api.TFun: 1 + r.Intn(3), api.TUnion: 1 + r.Intn(4), api.TInter: 1 + r.Intn(3), api.TNot: 1}[k]
	first := 0
	if k == api.TUnion || k == api.TInter || k == api.TNot {
		first = i + 1
	}
	node := kind(k)
	for range count {
		node.Kids = append(node.Kids, first+r.Intn(size-first))
	}
	switch k {
	case api.TInt:
		node.Lo, node.Hi = []int64{least, 0, 1}[r.Intn(3)], []int64{1, 2, greatest}[r.Intn(3)]
	case api.TString, api.TAtom:
		node.Text = []string{"a", "b"}[r.Intn(2)]
	case api.TVar:
		node.Text = []string{"A", "B"}[r.Intn(2)]
	case api.TMap:
		node.Rest = [2]int{r.Intn(size), r.Intn(size)}
		for _, name := range []string{"a", "b", "\"", "\"a"} {
			if r.Intn(2) == 0 {
				node.Fields = append(node.Fields, api.Field{Key: key(name), Node: r.Intn(size), Optional: r.Intn(3) > 0})
			}
		}
	}
	return node
}

// P8.1: every node of random types has the members that the chapter says, and every value is a member of it or of its complement.
func TestRandomTypes(t *testing.T) {
	values, r := someValues(t), rand.New(rand.NewSource(8))
	found := map[bool]int{}
	for range 150 {
		x := randomType(r, 1+r.Intn(8))
		if code := typeexpr.WellFormed(x); code != api.OK {
			t.Fatal(x, code)
		}
		not := x
		not.Nodes, not.Root = append(slices.Clone(x.Nodes), kind(api.TNot, x.Root)), len(x.Nodes)
		for _, v := range values {
			for n := range x.Nodes {
				if member.MemberOf(v, x, n) != chapter8(v, x, n) {
					t.Fatalf("%v at %d of %v", v, n, x)
				}
			}
			is := member.Member(v, x)
			found[is]++
			if is != member.MemberOf(v, x, x.Root) || is == member.Member(v, not) {
				t.Fatalf("%v at the root of %v", v, x)
			}
			if path := member.Explain(v, x); is && len(path) > 0 || !is && !explains(path, v, x) {
				t.Fatalf("%v explains %v for %v", path, v, x)
			}
		}
	}
	if found[true] < 2000 || found[false] < 2000 {
		t.Error(found)
	}
}
