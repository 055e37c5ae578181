package value_test

import (
	"cmp"
	"slices"
	"testing"

	"semtype/api"
	"semtype/ident"
	"semtype/value"
)

// token is a number or a text of the list that tokens returns.
type token struct {
	n int64
	s string
}

// tokens writes v as one list in the order of P4.2, the number of elements before each list, so that values compare as these lists do.
func tokens(v api.Value) []token {
	l := []token{{n: int64(v.Kind)}, {n: v.Int}, {s: v.Text}, {n: int64(len(v.Keys))}}
	for _, k := range v.Keys {
		l = append(l, token{n: int64(k.Kind)}, token{s: k.Text})
	}
	l = append(l, listTokens(v.Kids)...)
	l = append(l, token{n: int64(len(v.Entries))})
	for _, e := range v.Entries {
		l = append(l, entryTokens(e)...)
	}
	l = append(l, token{n: int64(len(v.Labels))})
	for _, name := range v.Labels {
		l = append(l, token{s: name})
	}
	return l
}

func listTokens(values []api.Value) []token {
	l := []token{{n: int64(len(values))}}
	for _, v := range values {
		l = append(l, tokens(v)...)
	}
	return l
}

func entryTokens(e api.Entry) []token {
	last := int64(1)
	if e.Fails {
		last = 0
	}
	return slices.Concat(listTokens(e.Args), []token{{n: last}}, tokens(e.Result))
}

func compareTokens(a, b []token) int {
	return slices.CompareFunc(a, b, func(x, y token) int {
		return cmp.Or(cmp.Compare(x.n, y.n), cmp.Compare(x.s, y.s))
	})
}

// depths returns for each node of v its distance from the root, plus depth.
func depths(v api.Value, depth int) []int {
	l := []int{depth}
	below := slices.Clone(v.Kids)
	for _, e := range v.Entries {
		below = append(below, e.Args...)
		if !e.Fails {
			below = append(below, e.Result)
		}
	}
	for _, part := range below {
		l = append(l, depths(part, depth+1)...)
	}
	return l
}

// bare is the model of Unlabel: it inserts each entry at its place, unless it is there.
func bare(v api.Value) api.Value {
	result := api.Value{Kind: v.Kind, Int: v.Int, Text: v.Text, Keys: v.Keys, Kids: bareAll(v.Kids)}
	for _, e := range v.Entries {
		plain := api.Entry{Args: bareAll(e.Args), Fails: e.Fails, Result: bare(e.Result)}
		at := 0
		for at < len(result.Entries) && compareTokens(entryTokens(result.Entries[at]), entryTokens(plain)) < 0 {
			at++
		}
		if at == len(result.Entries) || compareTokens(entryTokens(result.Entries[at]), entryTokens(plain)) > 0 {
			result.Entries = slices.Insert(result.Entries, at, plain)
		}
	}
	return result
}

func bareAll(l []api.Value) []api.Value {
	var result []api.Value
	for _, v := range l {
		result = append(result, bare(v))
	}
	return result
}

// follows is the model of Validate. It follows the chapter's words.
func follows(v api.Value) bool {
	for i, name := range v.Labels {
		if !ident.IsVariable(name) || i > 0 && v.Labels[i-1] >= name {
			return false
		}
	}
	below, ok := slices.Clone(v.Kids), false
	plain := api.Value{Kind: v.Kind, Labels: v.Labels}
	switch v.Kind {
	case api.VInt:
		plain.Int, ok = v.Int, true
	case api.VNil:
		ok = true
	case api.VTuple:
		plain.Kids, ok = v.Kids, len(v.Kids) <= 4
	case api.VCons:
		plain.Kids, ok = v.Kids, len(v.Kids) == 2 && (v.Kids[1].Kind == api.VCons || v.Kids[1].Kind == api.VNil)
	case api.VFun:
		plain.Int, plain.Entries, ok = v.Int, v.Entries, v.Int >= 0 && v.Int <= 4
		for i, e := range v.Entries {
			below = append(below, e.Args...)
			ok = ok && len(e.Args) == int(v.Int) && (i == 0 || compareTokens(entryTokens(v.Entries[i-1]), entryTokens(e)) < 0)
			if e.Fails {
				ok = ok && show(e.Result) == show(api.Value{})
			} else {
				below = append(below, e.Result)
			}
		}
	}
	return ok && show(plain) == show(v) && !slices.ContainsFunc(below, func(part api.Value) bool { return !follows(part) })
}

// pool returns values of the kinds that follows knows, valid and not.
func pool() []api.Value {
	one, oneA, list := integer(1), integer(1, "A"), empty()
	leaves := []api.Value{one, oneA, integer(2, "B"), list, labelled(list, "A", "B"), labelled(list, "B", "A"), {}, {Kind: api.VNil, Int: 1}}
	var entries []api.Entry
	for _, a := range []api.Value{one, oneA, {}, fun(1, maps(one, oneA), fails(oneA))} {
		entries = append(entries, fails(a), maps(one, a), maps(oneA, a), api.Entry{Args: []api.Value{a}, Fails: true, Result: oneA})
	}
	l := slices.Clone(leaves)
	for _, a := range leaves {
		for _, b := range leaves {
			l = append(l, pair(a, b), node(api.VTuple, a, pair(oneA, b)), fun(1, maps(a, b)), fun(0, maps(labelled(a, "C")), maps(b)))
		}
	}
	for _, a := range entries {
		for _, b := range entries {
			f := fun(1, a, b)
			l = append(l, f, fun(2, a, b), fun(1, b, a, b), pair(f, list), fun(1, maps(one, f), a), fun(1, maps(f, one), maps(labelled(f, "A"), one)))
		}
	}
	return l
}

// P4.1, P4.3, P4.6: each value of the pool against the models.
func TestOneValueByModel(t *testing.T) {
	valid := 0
	for _, v := range pool() {
		d := depths(v, 1)
		if value.Nodes(v) != len(d) || value.Height(v) != slices.Max(d) {
			t.Fatalf("%s: %d nodes, height %d", show(v), value.Nodes(v), value.Height(v))
		}
		if (value.Validate(v) == api.OK) != follows(v) {
			t.Fatalf("%s: %v", show(v), value.Validate(v))
		}
		check(t, "Unlabel", value.Unlabel(v), bare(v))
		check(t, "Unlabel of it", value.Unlabel(value.Unlabel(v)), bare(v))
		if follows(v) {
			valid++
			checkValid(t, v)
		}
	}
	if valid < 100 {
		t.Errorf("%d values are valid", valid)
	}
}

// checkValid tests that what is made of a valid value is valid.
func checkValid(t *testing.T, v api.Value) {
	t.Helper()
	made := []api.Value{value.Unlabel(v), value.WithLabels(v, "C", "A", "C"), value.WithLabels(v), value.Tuple(v, v), value.List(v, v), value.Cons(v, value.Nil())}
	if m, code := value.Map([]api.Key{stringKey("a"), atomKey("a")}, []api.Value{v, v}); code == api.OK {
		made = append(made, m)
	}
	if f, code := value.Function(1, maps(v, v), fails(v), maps(v, v)); code == api.OK {
		made = append(made, f)
	}
	for _, m := range made {
		if value.Validate(m) != api.OK {
			t.Errorf("%s is not valid", show(m))
		}
	}
	if len(made) != 8 {
		t.Errorf("%s: no map or no function", show(v))
	}
}

// P4.2: all pairs of the pool against the model.
func TestCompareByModel(t *testing.T) {
	l := pool()
	lists := make([][]token, len(l))
	for i, v := range l {
		lists[i] = tokens(v)
	}
	for i, a := range l {
		for k, b := range l {
			want := compareTokens(lists[i], lists[k])
			if got := value.Compare(a, b); got != want || value.Equal(a, b) != (want == 0) {
				t.Fatalf("Compare(%s, %s) = %d", show(a), show(b), got)
			}
		}
	}
}

// P4.5: a function and a map do not depend on the order in which they are given.
func TestAnyOrder(t *testing.T) {
	one, two := integer(1), integer(2)
	entries := []api.Entry{fails(one), maps(one, one), maps(two, one), fails(two), maps(one, two), maps(one, pair(one, empty()))}
	keys := []api.Key{atomKey("a"), atomKey("aa"), atomKey("b"), stringKey(""), stringKey("a"), stringKey("b")}
	values := []api.Value{two, one, empty(), one, two, node(api.VTuple)}
	eachOrder([]int{0, 1, 2, 3, 4, 5}, 0, func(order []int) {
		mixed, mixedKeys, mixedValues := []api.Entry{entries[order[0]]}, []api.Key{}, []api.Value{}
		for _, i := range order {
			mixed, mixedKeys, mixedValues = append(mixed, entries[i]), append(mixedKeys, keys[i]), append(mixedValues, values[i])
		}
		if f, code := value.Function(1, mixed...); code != api.OK || show(f) != show(fun(1, entries...)) {
			t.Fatalf("order %v: %s, %v", order, show(f), code)
		}
		if m, code := value.Map(mixedKeys, mixedValues); code != api.OK || show(m) != show(record(keys, values...)) {
			t.Fatalf("order %v: %s, %v", order, show(m), code)
		}
	})
}

// eachOrder calls visit for each arrangement of l from index from on.
func eachOrder(l []int, from int, visit func([]int)) {
	if from == len(l) {
		visit(l)
	}
	for i := from; i < len(l); i++ {
		l[from], l[i] = l[i], l[from]
		eachOrder(l, from+1, visit)
		l[from], l[i] = l[i], l[from]
	}
}
