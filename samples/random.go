package samples

import (
	"math"

	"semtype/api"
)

// Source is a source of numbers from 0 to below n.
type Source interface{ Intn(n int) int }

// RandomType returns a well-formed type with this many nodes: connectives lead to later nodes only, of which the last one is none.
func RandomType(r Source, size int) api.Type {
	t := api.Type{Root: r.Intn(size)}
	for i := range size {
		connective := i < size-1 && r.Intn(26) < 6
		t.Nodes = append(t.Nodes, randomNode(r, randomKind(r, connective), i, size))
	}
	return t
}

// randomKind prefers kinds with parts.
func randomKind(r Source, connective bool) int {
	if connective {
		return api.TUnion + r.Intn(3)
	}
	parts := []int{api.TTuple, api.TCons, api.TMap, api.TFun}
	plain := []int{api.TNone, api.TAny, api.TInt, api.TString, api.TStrings, api.TAtom, api.TAtoms, api.TPid, api.TNil, api.TTuples, api.TFuns, api.TVar}
	if i := r.Intn(len(plain) + 2*len(parts)); i < len(plain) {
		return plain[i]
	}
	return parts[r.Intn(len(parts))]
}

func randomNode(r Source, kind, i, size int) api.TypeNode {
	first := 0
	if kind == api.TUnion || kind == api.TInter || kind == api.TNot {
		first = i + 1
	}
	node := Node(kind)
	for range randomCount(r, kind) {
		node.Kids = append(node.Kids, first+r.Intn(size-first))
	}
	switch kind {
	case api.TInt:
		node.Lo, node.Hi = []int64{math.MinInt64, 0, 1}[r.Intn(3)], []int64{1, 2, math.MaxInt64}[r.Intn(3)]
	case api.TString, api.TAtom:
		node.Text = []string{"a", "b"}[r.Intn(2)]
	case api.TVar:
		node.Text = []string{"A", "B"}[r.Intn(2)]
	case api.TMap:
		node.Rest, node.Fields = [2]int{r.Intn(size), r.Intn(size)}, randomFields(r, size)
	}
	return node
}

func randomCount(r Source, kind int) int {
	switch kind {
	case api.TTuple:
		return r.Intn(3)
	case api.TCons:
		return 2
	case api.TFun, api.TInter:
		return 1 + r.Intn(3)
	case api.TUnion:
		return 1 + r.Intn(4)
	case api.TNot:
		return 1
	}
	return 0
}

func randomFields(r Source, size int) (l []api.Field) {
	for _, name := range []string{"a", "b", "\"", "\"a"} {
		if r.Intn(2) == 0 {
			l = append(l, api.Field{Key: Key(name), Node: r.Intn(size), Optional: r.Intn(3) > 0})
		}
	}
	return l
}
