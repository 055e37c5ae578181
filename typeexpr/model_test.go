package typeexpr_test

import (
	"fmt"
	"math/rand"
	"slices"
	"strings"
	"testing"

	"semtype/api"
	"semtype/ident"
	"semtype/typeexpr"
	"semtype/value"
)

// memberAt follows the words of chapter 8. v is valid, t is well-formed.
func memberAt(v api.Value, t api.Type, n int) bool {
	node := t.Nodes[n]
	within := func(v api.Value, n int) bool { return memberAt(v, t, n) }
	switch node.Kind {
	case api.TNone:
		return false
	case api.TAny:
		return true
	case api.TInt:
		return v.Kind == api.VInt && node.Lo <= v.Int && v.Int <= node.Hi
	case api.TString:
		return v.Kind == api.VString && v.Text == node.Text
	case api.TAtom:
		return v.Kind == api.VAtom && v.Text == node.Text
	case api.TStrings, api.TAtoms, api.TPid, api.TNil, api.TTuples, api.TFuns:
		return v.Kind == map[int]int{api.TStrings: api.VString, api.TAtoms: api.VAtom, api.TPid: api.VPid, api.TNil: api.VNil, api.TTuples: api.VTuple, api.TFuns: api.VFun}[node.Kind]
	case api.TTuple:
		return v.Kind == api.VTuple && slices.EqualFunc(v.Kids, node.Kids, within)
	case api.TCons:
		return v.Kind == api.VCons && slices.EqualFunc(v.Kids, node.Kids, within)
	case api.TMap:
		return v.Kind == api.VMap && mapMember(v, node, within)
	case api.TFun:
		return v.Kind == api.VFun && int(v.Int) == len(node.Kids)-1 && functionMember(v, node, within)
	case api.TUnion:
		return slices.ContainsFunc(node.Kids, func(n int) bool { return within(v, n) })
	case api.TInter:
		return !slices.ContainsFunc(node.Kids, func(n int) bool { return !within(v, n) })
	case api.TNot:
		return !within(v, node.Kids[0])
	case api.TVar:
		return slices.Contains(v.Labels, node.Text)
	}
	panic("no kind of node")
}

func mapMember(v api.Value, node api.TypeNode, within func(api.Value, int) bool) bool {
	left := map[api.Key]api.Value{}
	for i, k := range v.Keys {
		left[k] = v.Kids[i]
	}
	for _, f := range node.Fields {
		x, there := left[f.Key]
		if there && !within(x, f.Node) || !there && !f.Optional {
			return false
		}
		delete(left, f.Key)
	}
	for k, x := range left {
		if !within(x, node.Rest[k.Kind]) {
			return false
		}
	}
	return true
}

func functionMember(v api.Value, node api.TypeNode, within func(api.Value, int) bool) bool {
	last := len(node.Kids) - 1
	for _, e := range v.Entries {
		if slices.EqualFunc(e.Args, node.Kids[:last], within) && (e.Fails || !within(e.Result, node.Kids[last])) {
			return false
		}
	}
	return true
}

func member(v api.Value, t api.Type) bool { return memberAt(v, t, t.Root) }

// someValues returns values of all kinds, with and without labels, and with parts of all kinds.
func someValues(t *testing.T) []api.Value {
	t.Helper()
	l := []api.Value{value.Nil(), value.Pid(0), value.Tuple()}
	for _, n := range []int64{least, -1, 0, 1, 9, 10, greatest} {
		l = append(l, value.Int(n))
	}
	for _, s := range []string{"", "a", "b", "B", "\x00", strings.Repeat("z", api.MaxText)} {
		l = append(l, value.String(s))
	}
	for _, s := range []string{"a", "b", "c_1", strings.Repeat("z", api.MaxName)} {
		l = append(l, value.Atom(s))
	}
	for _, v := range slices.Clone(l) {
		l = append(l, value.WithLabels(v, "A"))
	}
	l = append(l, value.WithLabels(value.Int(1), "A", "B"), value.WithLabels(value.Atom("a"), "B"))
	some := []api.Value{value.Int(1), value.Atom("a"), value.WithLabels(value.Atom("a"), "A"), value.String("a"), value.Nil(), value.Tuple()}
	for i, v := range slices.Clone(some) {
		w := some[(i+1)%len(some)]
		l = append(l, value.Tuple(v), value.Tuple(v, w), value.Tuple(v, w, v, v), value.List(v), value.WithLabels(value.List(v, w, v), "B"))
		l = append(l, value.Cons(v, value.List(w)), value.Tuple(value.Tuple(v), value.List(w)))
		l = append(l, mapOf(t), mapOf(t, "a", v), mapOf(t, "a", v, "\"a", w), mapOf(t, "\"b", v, "c", w), value.WithLabels(mapOf(t, "b", mapOf(t, "a", v)), "A"))
		l = append(l, function(t, 0), function(t, 4), function(t, 0, api.Entry{Result: v}), function(t, 0, api.Entry{Fails: true}))
		l = append(l, function(t, 1, api.Entry{Args: []api.Value{v}, Result: w}), function(t, 1, api.Entry{Args: []api.Value{v}, Fails: true}))
		l = append(l, function(t, 2, api.Entry{Args: []api.Value{v, w}, Result: w}, api.Entry{Args: []api.Value{w, v}, Result: v}))
	}
	for _, v := range l {
		if value.Validate(v) != api.OK {
			t.Fatalf("%v is no value", v)
		}
	}
	return l
}

// mapOf takes pairs of a key and a value; the key of a string begins with a quote.
func mapOf(t *testing.T, pairs ...any) api.Value {
	t.Helper()
	var keys []api.Key
	var l []api.Value
	for i := 0; i < len(pairs); i += 2 {
		keys, l = append(keys, key(pairs[i].(string))), append(l, pairs[i+1].(api.Value))
	}
	v, code := value.Map(keys, l)
	if code != api.OK {
		t.Fatal(code)
	}
	return v
}

func key(s string) api.Key {
	if text, quoted := strings.CutPrefix(s, "\""); quoted {
		return api.Key{Kind: api.KeyString, Text: text}
	}
	return api.Key{Kind: api.KeyAtom, Text: s}
}

func function(t *testing.T, arity int, l ...api.Entry) api.Value {
	t.Helper()
	v, code := value.Function(arity, l...)
	if code != api.OK {
		t.Fatal(code)
	}
	return v
}

// randomType returns a type of this many nodes, which is well-formed: TUnion, TInter and TNot nodes lead to later nodes only, of which the last one is another one.
func randomType(r *rand.Rand, size int) api.Type {
	t := api.Type{Root: r.Intn(size)}
	for i := range size {
		t.Nodes = append(t.Nodes, randomNode(r, i, size))
	}
	return t
}

func randomNode(r *rand.Rand, i, size int) api.TypeNode {
	kinds := api.TVar
	if i == size-1 {
		kinds = api.TFuns
	}
	node := api.TypeNode{Kind: 1 + r.Intn(kinds)}
	if i < size-1 && r.Intn(8) == 0 {
		node.Kind = api.TVar
	}
	kids := func(count, from int) {
		for range count {
			node.Kids = append(node.Kids, from+r.Intn(size-from))
		}
	}
	switch node.Kind {
	case api.TInt:
		node.Lo = int64(r.Intn(12) - 2)
		node.Hi = node.Lo + int64(r.Intn(10))
	case api.TString, api.TAtom:
		node.Text = []string{"a", "b"}[r.Intn(2)]
	case api.TVar:
		node.Text = []string{"A", "B", "C"}[r.Intn(3)]
	case api.TTuple:
		kids(r.Intn(api.MaxArity+1), 0)
	case api.TCons:
		kids(2, 0)
	case api.TFun:
		kids(1+r.Intn(api.MaxArity+1), 0)
	case api.TUnion, api.TInter:
		kids(1+r.Intn(4), i+1)
	case api.TNot:
		kids(1, i+1)
	case api.TMap:
		for _, k := range []string{"a", "b", "\"", "\"b"} {
			if r.Intn(2) == 0 {
				node.Fields = append(node.Fields, api.Field{Key: key(k), Node: r.Intn(size), Optional: r.Intn(2) == 0})
			}
		}
		node.Rest = [2]int{r.Intn(size), r.Intn(size)}
	}
	return node
}

// indices returns all indices of a node.
func indices(node api.TypeNode) []int {
	l := slices.Clone(node.Kids)
	for _, f := range node.Fields {
		l = append(l, f.Node)
	}
	if node.Kind == api.TMap {
		l = append(l, node.Rest[:]...)
	}
	return l
}

// reachedFrom goes on until nothing new is found.
func reachedFrom(t api.Type) map[int]bool {
	found := map[int]bool{t.Root: true}
	for size := 0; size < len(found); {
		size = len(found)
		for _, n := range sorted(found) {
			for _, k := range indices(t.Nodes[n]) {
				found[k] = true
			}
		}
	}
	return found
}

func sorted(set map[int]bool) []int {
	var l []int
	for n := range set {
		l = append(l, n)
	}
	slices.Sort(l)
	return l
}

// modelCode follows P7.1; cycles are found by taking away the connectives whose Kids are no connectives any more.
func modelCode(t api.Type) api.Code {
	if t.Root < 0 || t.Root >= len(t.Nodes) {
		return api.ErrInvalid
	}
	for _, node := range t.Nodes {
		if !modelNode(node, len(t.Nodes)) {
			return api.ErrInvalid
		}
	}
	left := map[int]bool{}
	for i, node := range t.Nodes {
		left[i] = connectives[node.Kind]
	}
	for range t.Nodes {
		for i, node := range t.Nodes {
			left[i] = left[i] && slices.ContainsFunc(node.Kids, func(k int) bool { return left[k] })
		}
	}
	for _, is := range left {
		if is {
			return api.ErrLoop
		}
	}
	return api.OK
}

var connectives = map[int]bool{api.TUnion: true, api.TInter: true, api.TNot: true}

// used has the names of the fields that the kinds use.
var used = map[int]string{
	api.TNone: "", api.TAny: "", api.TStrings: "", api.TAtoms: "", api.TPid: "", api.TNil: "", api.TTuples: "", api.TFuns: "",
	api.TInt: "Lo Hi", api.TString: "Text", api.TAtom: "Text", api.TVar: "Text", api.TTuple: "Kids", api.TCons: "Kids", api.TFun: "Kids",
	api.TUnion: "Kids", api.TInter: "Kids", api.TNot: "Kids", api.TMap: "Fields Rest",
}

func modelNode(node api.TypeNode, size int) bool {
	fields, known := used[node.Kind]
	set := map[string]bool{"Lo": node.Lo != 0, "Hi": node.Hi != 0, "Text": node.Text != "", "Kids": len(node.Kids) > 0, "Fields": len(node.Fields) > 0, "Rest": node.Rest != [2]int{}}
	for name, is := range set {
		if is && !strings.Contains(fields, name) {
			return false
		}
	}
	for _, n := range indices(node) {
		if n < 0 || n >= size {
			return false
		}
	}
	var last *api.Key
	for _, f := range node.Fields {
		if !ident.ValidKey(f.Key) || last != nil && ident.CompareKeys(*last, f.Key) != -1 {
			return false
		}
		last = &f.Key
	}
	count := map[int][2]int{api.TTuple: {0, api.MaxArity}, api.TCons: {2, 2}, api.TFun: {1, api.MaxArity + 1}, api.TUnion: {1, greatest}, api.TInter: {1, greatest}, api.TNot: {1, 1}}
	bounds := count[node.Kind]
	right := bounds[0] <= len(node.Kids) && len(node.Kids) <= bounds[1] && node.Lo <= node.Hi
	right = right && (node.Kind != api.TString || len(node.Text) <= api.MaxText)
	right = right && (node.Kind != api.TAtom || ident.IsAtom(node.Text))
	return known && right && (node.Kind != api.TVar || ident.IsVariable(node.Text))
}

// damage changes one number, name or slice of t, mostly for the worse.
func damage(r *rand.Rand, t api.Type) api.Type {
	t.Nodes = slices.Clone(t.Nodes)
	node := &t.Nodes[r.Intn(len(t.Nodes))]
	index := r.Intn(len(t.Nodes)+3) - 1
	switch r.Intn(11) {
	case 0:
		t.Root = index
	case 1:
		node.Kind = r.Intn(api.TVar + 2)
	case 2:
		node.Lo = int64(r.Intn(20))
	case 3:
		node.Hi = int64(r.Intn(20))
	case 4:
		node.Text = []string{"", "a", "A", "_", strings.Repeat("a", api.MaxName+1), strings.Repeat("a", api.MaxText+1)}[r.Intn(6)]
	case 5:
		node.Kids = append(slices.Clone(node.Kids), index)
	case 6:
		node.Kids = slices.Clone(node.Kids)[:len(node.Kids)/2]
	case 7:
		node.Rest[r.Intn(2)] = index
	case 8:
		node.Fields = append(slices.Clone(node.Fields), api.Field{Key: key([]string{"a", "c", "A", "\"", "\"c"}[r.Intn(5)]), Node: index})
	case 9:
		if len(node.Kids) > 0 {
			node.Kids = slices.Clone(node.Kids)
			node.Kids[r.Intn(len(node.Kids))] = index
		}
	case 10:
		for i := range t.Nodes {
			t.Nodes[i] = kids(api.TUnion+r.Intn(2), r.Intn(len(t.Nodes)), min(i+1, len(t.Nodes)-1))
			if r.Intn(2) == 0 {
				t.Nodes[i] = randomNode(r, i, len(t.Nodes))
			}
		}
	}
	return t
}

// P7.1: random types, valid and damaged.
func TestWellFormedOfRandomTypes(t *testing.T) {
	r := rand.New(rand.NewSource(1))
	count := map[api.Code]int{}
	for range 60000 {
		x := randomType(r, 1+r.Intn(7))
		if code := typeexpr.WellFormed(x); code != api.OK {
			t.Fatalf("%v: %v", x, code)
		}
		for range r.Intn(3) {
			x = damage(r, x)
		}
		code := typeexpr.WellFormed(x)
		if code != modelCode(x) {
			t.Fatalf("%v: %v", x, code)
		}
		count[code]++
		if typeexpr.Validate(x) != code {
			t.Fatalf("%v: %v", x, typeexpr.Validate(x))
		}
	}
	if min(count[api.OK], count[api.ErrInvalid], count[api.ErrLoop]) < 500 {
		t.Error(count)
	}
}

// same asks that t is well-formed and that it has the members that belongs accepts.
func same(t *testing.T, what string, x api.Type, l []api.Value, belongs func(api.Value) bool) {
	t.Helper()
	if code := typeexpr.WellFormed(x); code != api.OK {
		t.Fatalf("%s: %v: %v", what, x, code)
	}
	for _, v := range l {
		if member(v, x) != belongs(v) {
			t.Fatalf("%s: %v: %v: %v", what, x, v, !belongs(v))
		}
	}
}

// P7.4, P7.5: the functions that combine types, on random types, against the members of these.
func TestMembersOfRandomTypes(t *testing.T) {
	r := rand.New(rand.NewSource(2))
	values := someValues(t)
	for range 400 {
		a, b := randomType(r, 1+r.Intn(9)), randomType(r, 1+r.Intn(9))
		c := randomType(r, 3)
		inA, inB := func(v api.Value) bool { return member(v, a) }, func(v api.Value) bool { return member(v, b) }
		same(t, "Union", typeexpr.Union(a, b), values, func(v api.Value) bool { return inA(v) || inB(v) })
		same(t, "Union", typeexpr.Union(c, a, b), values, func(v api.Value) bool { return inA(v) || inB(v) || member(v, c) })
		same(t, "Intersect", typeexpr.Intersect(a, b), values, func(v api.Value) bool { return inA(v) && inB(v) })
		same(t, "Intersect", typeexpr.Intersect(b, a, c), values, func(v api.Value) bool { return inA(v) && inB(v) && member(v, c) })
		same(t, "Complement", typeexpr.Complement(a), values, func(v api.Value) bool { return !inA(v) })
		same(t, "Difference", typeexpr.Difference(a, b), values, func(v api.Value) bool { return inA(v) && !inB(v) })
		same(t, "Prune", typeexpr.Prune(a), values, inA)
		n := r.Intn(len(a.Nodes))
		same(t, "At", typeexpr.At(a, n), values, func(v api.Value) bool { return memberAt(v, a, n) })
		both, root := typeexpr.Join(a, b)
		same(t, "Join", both, values, inA)
		same(t, "Join", typeexpr.At(both, root), values, inB)
	}
}

// P7.4: tuples, lists and functions of random types.
func TestComposedTypes(t *testing.T) {
	r := rand.New(rand.NewSource(3))
	values := someValues(t)
	for range 400 {
		a, b := randomType(r, 1+r.Intn(9)), randomType(r, 1+r.Intn(9))
		of := func(l ...api.Type) func(api.Value, int) bool {
			return func(v api.Value, i int) bool { return member(v, l[i]) }
		}
		same(t, "Tuple", typeexpr.Tuple(a, b), values, func(v api.Value) bool {
			return v.Kind == api.VTuple && slices.EqualFunc(v.Kids, []int{0, 1}, of(a, b))
		})
		same(t, "Cons", typeexpr.Cons(b, a), values, func(v api.Value) bool {
			return v.Kind == api.VCons && slices.EqualFunc(v.Kids, []int{0, 1}, of(b, a))
		})
		same(t, "ListOf", typeexpr.ListOf(a), values, func(v api.Value) bool {
			l, isList := value.Elements(v)
			return isList && !slices.ContainsFunc(l, func(v api.Value) bool { return !member(v, a) })
		})
		for arity := range 3 {
			params := []api.Type{b, a}[:arity]
			kids := []int{0, 1, 2}[:arity+1]
			same(t, "Function", typeexpr.Function(params, a), values, func(v api.Value) bool {
				inside := of(append(slices.Clone(params), a)...)
				return v.Kind == api.VFun && int(v.Int) == arity && functionMember(v, api.TypeNode{Kids: kids}, inside)
			})
		}
	}
}

// P7.3, P7.5: what the root of random types leads to.
func TestReachedNodes(t *testing.T) {
	r := rand.New(rand.NewSource(4))
	for range 20000 {
		x := randomType(r, 1+r.Intn(9))
		found, names := reachedFrom(x), map[string]bool{}
		for n := range found {
			if x.Nodes[n].Kind == api.TVar {
				names[x.Nodes[n].Text] = true
			}
		}
		got := typeexpr.Variables(x)
		if len(got) != len(names) || !slices.IsSorted(got) || slices.ContainsFunc(got, func(s string) bool { return !names[s] }) {
			t.Fatalf("Variables(%v) = %v", x, got)
		}
		if typeexpr.IsGround(x) != (len(names) == 0) {
			t.Fatalf("IsGround(%v)", x)
		}
		pruned := typeexpr.Prune(x)
		if len(pruned.Nodes) != len(found) || len(reachedFrom(pruned)) != len(found) {
			t.Fatalf("Prune(%v) = %v", x, pruned)
		}
		both, _ := typeexpr.Join(pruned, x)
		if again := typeexpr.Prune(both); len(again.Nodes) != len(found) {
			t.Fatalf("Prune(%v) = %v", both, again)
		}
	}
}

// expand is what the root of t looks like to this depth, with what stands in the place of the type variables.
func expand(t api.Type, n, depth int, instead map[string]func(depth int) string) string {
	node := t.Nodes[n]
	if f := instead[node.Text]; f != nil && node.Kind == api.TVar {
		return f(depth)
	}
	if depth == 0 {
		return "…"
	}
	s := fmt.Sprint(node.Kind, node.Lo, node.Hi, node.Text, len(node.Kids))
	for _, f := range node.Fields {
		s += fmt.Sprint(f.Key, f.Optional)
	}
	for _, k := range indices(node) {
		s += "(" + expand(t, k, depth-1, instead) + ")"
	}
	return s
}

// P7.6: random bindings. The result looks like the type with the bound types in the place of the variables.
func TestSubstituteInRandomTypes(t *testing.T) {
	r := rand.New(rand.NewSource(5))
	for range 10000 {
		x := randomType(r, 1+r.Intn(7))
		var l []api.Binding
		instead := map[string]func(int) string{}
		for range r.Intn(4) {
			b := api.Binding{Name: []string{"A", "B", "C", "D", "a"}[r.Intn(5)], Type: randomType(r, 1+r.Intn(5))}
			l = append(l, b)
			if instead[b.Name] == nil {
				instead[b.Name] = func(depth int) string { return expand(b.Type, b.Type.Root, depth, nil) }
			}
		}
		y := typeexpr.Substitute(x, l)
		if code := typeexpr.WellFormed(y); code != api.OK {
			t.Fatalf("Substitute(%v, %v): %v", x, l, code)
		}
		if got, wanted := expand(y, y.Root, 4, nil), expand(x, x.Root, 4, instead); got != wanted {
			t.Fatalf("Substitute(%v, %v) = %v", x, l, y)
		}
	}
}
