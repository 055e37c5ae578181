package diagram_test

import (
	"math/rand"
	"slices"
	"strconv"
	"strings"
	"testing"

	"semtype/api"
	"semtype/diagram"
)

// table is a boolean function of some literals, in ascending order: a byte 0 or 1 for each assignment, of which the first literal is the highest bit.
type table struct {
	literals []int
	values   string
}

var someLiterals = [][]int{{0, 1, 2}, {0, 5, 11}, {9, 10, 11}}

// tables returns all functions of these literals.
func tables(literals []int) []table {
	size := 1 << len(literals)
	var l []table
	for n := range 1 << size {
		values := strconv.FormatInt(int64(n), 2)
		l = append(l, table{literals, strings.Repeat("0", size-len(values)) + values})
	}
	return l
}

func randomTable(r *rand.Rand, literals []int, ones float64) table {
	var b strings.Builder
	for range 1 << len(literals) {
		if r.Float64() < ones {
			b.WriteByte('1')
		} else {
			b.WriteByte('0')
		}
	}
	return table{literals, b.String()}
}

func allLiterals() []int {
	var l []int
	for n := range api.MaxDiagram {
		l = append(l, n)
	}
	return l
}

// diagram follows the chapter's words on the text of the table, without any function of the package.
func (f table) diagram() api.Diagram {
	var d api.Diagram
	listed := map[string]int{}
	var reference func(literals []int, values string) int
	reference = func(literals []int, values string) int {
		if !strings.Contains(values, "1") {
			return 0
		}
		if !strings.Contains(values, "0") {
			return 1
		}
		low, high := values[:len(values)/2], values[len(values)/2:]
		if low == high {
			return reference(literals[1:], low)
		}
		if r, ok := listed[values]; ok {
			return r
		}
		node := api.DiagramNode{Literal: literals[0]}
		node.High = reference(literals[1:], high)
		node.Low = reference(literals[1:], low)
		d.Nodes = append(d.Nodes, node)
		listed[values] = len(d.Nodes) + 1
		return len(d.Nodes) + 1
	}
	d.Root = reference(f.literals, f.values)
	return d
}

// at returns the value of f under an assignment as Evaluate takes it.
func (f table) at(assignment uint) bool {
	i := 0
	for _, n := range f.literals {
		i = i*2 + int(assignment>>n&1)
	}
	return f.values[i] == '1'
}

// assignment returns what makes f read the byte i, with other bits that do not matter.
func (f table) assignment(i int, others uint) uint {
	for k, n := range slices.Backward(f.literals) {
		bit := uint(i>>(len(f.literals)-1-k)) & 1
		others = others&^(1<<n) | bit<<n
	}
	return others
}

// from returns the function of the same literals with these values.
func (f table) from(value func(i int) bool) table {
	b := make([]byte, len(f.values))
	for i := range b {
		b[i] = '0'
		if value(i) {
			b[i] = '1'
		}
	}
	return table{f.literals, string(b)}
}

func (f table) and(g table) table {
	return f.from(func(i int) bool { return f.values[i] == '1' && g.values[i] == '1' })
}

func (f table) or(g table) table {
	return f.from(func(i int) bool { return f.values[i] == '1' || g.values[i] == '1' })
}

func (f table) not() table {
	return f.from(func(i int) bool { return f.values[i] == '0' })
}

func (f table) restrict(n int, value bool) table {
	return f.from(func(i int) bool {
		a := f.assignment(i, 0) &^ (1 << n)
		if value {
			a |= 1 << n
		}
		return f.at(a)
	})
}

// dependsOn compares the values where only literal n differs.
func (f table) dependsOn(n int) bool {
	return f.restrict(n, true).values != f.restrict(n, false).values
}

func same(a, b api.Diagram) bool { return a.Root == b.Root && slices.Equal(a.Nodes, b.Nodes) }

func want(t *testing.T, what string, got, wanted api.Diagram) {
	t.Helper()
	if !same(got, wanted) {
		t.Fatalf("%s gives %v, not %v", what, got, wanted)
	}
}

// P6.1 to P6.4: each function of three literals.
func TestEachFunctionOfThreeLiterals(t *testing.T) {
	for _, literals := range someLiterals {
		for _, f := range tables(literals) {
			checkOne(t, f)
		}
	}
}

func checkOne(t *testing.T, f table) {
	t.Helper()
	d := f.diagram()
	if !diagram.Valid(d) {
		t.Fatalf("%v is not valid", d)
	}
	want(t, "Not", diagram.Not(d), f.not().diagram())
	for i := range f.values {
		for _, others := range []uint{0, ^uint(0), 0x555, 1 << 12, 1 << 63} {
			a := f.assignment(i, others)
			if diagram.Evaluate(d, a) != f.at(a) {
				t.Fatalf("Evaluate(%v, %b) = %v", d, a, !f.at(a))
			}
		}
	}
	var support []int
	for n := -2; n < api.MaxDiagram+2; n++ {
		checkRestrict(t, f, d, n)
		if slices.Contains(f.literals, n) && f.dependsOn(n) {
			support = append(support, n)
		}
	}
	if got := diagram.Support(d); !slices.Equal(got, support) {
		t.Fatalf("Support(%v) = %v, not %v", d, got, support)
	}
	checkPaths(t, f, d)
}

func checkRestrict(t *testing.T, f table, d api.Diagram, n int) {
	t.Helper()
	for _, value := range []bool{false, true} {
		g := f
		if slices.Contains(f.literals, n) {
			g = f.restrict(n, value)
		}
		want(t, "Restrict", diagram.Restrict(d, n, value), g.diagram())
	}
}

// checkPaths asks that the paths have the form and the order of P6.4, that exactly one of them holds where f is true and none elsewhere, and that they make the diagram again.
func checkPaths(t *testing.T, f table, d api.Diagram) {
	t.Helper()
	paths := diagram.Paths(d)
	holding := make([]int, len(f.values))
	for i, p := range paths {
		if !isAscending(p.Pos) || !isAscending(p.Neg) {
			t.Fatalf("path %v is not ascending", p)
		}
		if i > 0 && !isBefore(paths[i-1], p) {
			t.Fatalf("path %v before %v", paths[i-1], p)
		}
		for k := range holding {
			if holds(p, f.assignment(k, 0)) {
				holding[k]++
			}
		}
	}
	for i, count := range holding {
		if count != int(f.values[i]-'0') {
			t.Fatalf("%d of the paths %v hold at %d", count, paths, i)
		}
	}
	again, code := diagram.FromPaths(paths)
	if code != api.OK {
		t.Fatalf("FromPaths(%v): %v", paths, code)
	}
	want(t, "FromPaths of Paths", again, d)
}

func isAscending(l []int) bool {
	return slices.IsSorted(l) && len(slices.Compact(slices.Clone(l))) == len(l)
}

// isBefore reports whether, at the first literal on which two paths differ, the first path is the High one.
func isBefore(a, b api.Path) bool {
	for n := range api.MaxDiagram {
		if slices.Contains(a.Pos, n) != slices.Contains(b.Pos, n) {
			return slices.Contains(a.Pos, n) && slices.Contains(b.Neg, n)
		}
	}
	return false
}

// holds reports whether the literals of p have their values.
func holds(p api.Path, assignment uint) bool {
	isFalse := func(n int) bool { return assignment>>n&1 == 0 }
	isTrue := func(n int) bool { return !isFalse(n) }
	return !slices.ContainsFunc(p.Pos, isFalse) && !slices.ContainsFunc(p.Neg, isTrue)
}

// P6.2: And and Or of each pair of functions of three literals.
func TestEachPairOfFunctions(t *testing.T) {
	for _, literals := range someLiterals[1:] {
		all := tables(literals)
		diagrams := map[string]api.Diagram{}
		for _, f := range all {
			diagrams[f.values] = f.diagram()
		}
		for _, f := range all {
			for _, g := range all {
				a, b := diagrams[f.values], diagrams[g.values]
				want(t, "And", diagram.And(a, b), diagrams[f.and(g).values])
				want(t, "Or", diagram.Or(a, b), diagrams[f.or(g).values])
			}
		}
	}
}

// P6.2: functions whose literals come in turns or follow each other.
func TestFunctionsOfDifferentLiterals(t *testing.T) {
	r := rand.New(rand.NewSource(6))
	six := []int{0, 2, 3, 7, 10, 11}
	for range 2000 {
		f, g := randomTable(r, six[:r.Intn(5)], 0.5), randomTable(r, six[1+r.Intn(5):], 0.5)
		a, b := f.diagram(), g.diagram()
		wide := table{six, strings.Repeat("0", 64)}
		both := wide.from(func(i int) bool { x := wide.assignment(i, 0); return f.at(x) && g.at(x) })
		either := wide.from(func(i int) bool { x := wide.assignment(i, 0); return f.at(x) || g.at(x) })
		want(t, "And", diagram.And(a, b), both.diagram())
		want(t, "And", diagram.And(b, a), both.diagram())
		want(t, "Or", diagram.Or(a, b), either.diagram())
		want(t, "Or", diagram.Or(b, a), either.diagram())
	}
}

// P6.1 to P6.4: functions of all literals, with many nodes and with few.
func TestFunctionsOfAllLiterals(t *testing.T) {
	r := rand.New(rand.NewSource(7))
	for _, ones := range []float64{0.5, 0.9, 0.01, 0.001} {
		f, g := randomTable(r, allLiterals(), ones), randomTable(r, allLiterals(), 0.5)
		a, b := f.diagram(), g.diagram()
		if !diagram.Valid(a) || !diagram.Valid(b) {
			t.Fatal("a random function is not valid")
		}
		want(t, "Not", diagram.Not(a), f.not().diagram())
		want(t, "And", diagram.And(a, b), f.and(g).diagram())
		want(t, "Or", diagram.Or(a, b), f.or(g).diagram())
		for range 200 {
			x := uint(r.Uint64())
			if diagram.Evaluate(a, x) != f.at(x) {
				t.Fatalf("Evaluate at %b", x)
			}
		}
		for n := range api.MaxDiagram {
			checkRestrict(t, f, a, n)
		}
		checkPaths(t, f, a)
	}
}

// P6.4: the disjunction of any paths, with literals out of order, twice and on both sides.
func TestRandomPaths(t *testing.T) {
	r := rand.New(rand.NewSource(8))
	five := []int{0, 1, 4, 10, 11}
	some := func() (l []int) {
		for range r.Intn(4) {
			l = append(l, five[r.Intn(5)])
		}
		return l
	}
	wide := table{five, strings.Repeat("0", 32)}
	for range 20000 {
		paths := make([]api.Path, r.Intn(6))
		for i := range paths {
			paths[i] = api.Path{Pos: some(), Neg: some()}
		}
		f := wide.from(func(i int) bool {
			return slices.ContainsFunc(paths, func(p api.Path) bool { return holds(p, wide.assignment(i, 0)) })
		})
		got, code := diagram.FromPaths(paths)
		if code != api.OK {
			t.Fatalf("FromPaths(%v): %v", paths, code)
		}
		want(t, "FromPaths", got, f.diagram())
	}
}

// P6.1, P6.2: laws, node for node.
func TestLaws(t *testing.T) {
	and, or, not := diagram.And, diagram.Or, diagram.Not
	r := rand.New(rand.NewSource(9))
	for range 3000 {
		a, b, c := lawful(r), lawful(r), lawful(r)
		want(t, "De Morgan of And", not(and(a, b)), or(not(a), not(b)))
		want(t, "De Morgan of Or", not(or(a, b)), and(not(a), not(b)))
		want(t, "And over Or", and(a, or(b, c)), or(and(a, b), and(a, c)))
		want(t, "Or over And", or(a, and(b, c)), and(or(a, b), or(a, c)))
		want(t, "double negation", not(not(a)), a)
		want(t, "And in turn", and(a, b), and(b, a))
		want(t, "Or in turn", or(a, b), or(b, a))
		want(t, "And in groups", and(and(a, b), c), and(a, and(b, c)))
		want(t, "Or in groups", or(or(a, b), c), or(a, or(b, c)))
		want(t, "a function and its negation", and(a, not(a)), diagram.False())
		want(t, "a function or its negation", or(a, not(a)), diagram.True())
		want(t, "And with itself", and(a, a), a)
		want(t, "Or with itself", or(a, a), a)
		want(t, "absorption", or(a, and(a, b)), a)
		checkConstants(t, a)
		checkExpansion(t, a, r.Intn(api.MaxDiagram))
	}
}

func lawful(r *rand.Rand) api.Diagram {
	l := slices.DeleteFunc(allLiterals(), func(int) bool { return r.Intn(2) == 0 })
	return randomTable(r, l[:min(len(l), 5)], r.Float64()).diagram()
}

func checkConstants(t *testing.T, a api.Diagram) {
	t.Helper()
	want(t, "And with true", diagram.And(a, diagram.True()), a)
	want(t, "And with false", diagram.And(diagram.False(), a), diagram.False())
	want(t, "Or with true", diagram.Or(a, diagram.True()), diagram.True())
	want(t, "Or with false", diagram.Or(diagram.False(), a), a)
}

// checkExpansion asks that a function is what its two restrictions make of it.
func checkExpansion(t *testing.T, a api.Diagram, n int) {
	t.Helper()
	l, _ := diagram.Literal(n)
	high := diagram.And(l, diagram.Restrict(a, n, true))
	low := diagram.And(diagram.Not(l), diagram.Restrict(a, n, false))
	want(t, "expansion", diagram.Or(high, low), a)
}
