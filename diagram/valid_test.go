package diagram_test

import (
	"fmt"
	"math"
	"math/rand"
	"slices"
	"testing"

	"semtype/api"
	"semtype/diagram"
)

// isValid follows the words of P6.1.
func isValid(d api.Diagram) bool {
	literals := map[int]int{0: api.MaxDiagram, 1: api.MaxDiagram}
	for i, n := range d.Nodes {
		high, highOK := literals[n.High]
		low, lowOK := literals[n.Low]
		if n.Literal < 0 || n.Literal >= api.MaxDiagram || !highOK || !lowOK || n.High == n.Low || n.Literal >= high || n.Literal >= low || slices.Contains(d.Nodes[:i], n) {
			return false
		}
		literals[i+2] = n.Literal
	}
	if _, ok := literals[d.Root]; !ok {
		return false
	}
	var finished []int
	var walk func(r int)
	walk = func(r int) {
		if r < 2 || slices.Contains(finished, r) {
			return
		}
		walk(d.Nodes[r-2].High)
		walk(d.Nodes[r-2].Low)
		finished = append(finished, r)
	}
	walk(d.Root)
	return len(finished) == len(d.Nodes) && slices.IsSorted(finished)
}

// invalid has diagrams that break a condition of P6.1, by what is wrong with them.
func invalid() map[string]api.Diagram {
	row := func(l, h, o int) [3]int { return [3]int{l, h, o} }
	all := map[string]api.Diagram{
		"a reference to itself":             nodes(2, row(0, 2, 0)),
		"a Low reference to itself":         nodes(2, row(0, 0, 2)),
		"a reference to a later node":       nodes(2, row(0, 3, 0), row(1, 1, 0)),
		"a Low reference to a later node":   nodes(2, row(0, 0, 3), row(1, 1, 0)),
		"references in a circle":            nodes(2, row(0, 3, 0), row(1, 2, 0)),
		"High and Low are false":            nodes(2, row(0, 0, 0)),
		"High and Low are true":             nodes(2, row(0, 1, 1)),
		"High and Low are a node":           nodes(3, row(1, 1, 0), row(0, 2, 2)),
		"the literal of High is the same":   nodes(3, row(1, 1, 0), row(1, 2, 0)),
		"the literal of Low is the same":    nodes(3, row(1, 1, 0), row(1, 0, 2)),
		"the literal of High is less":       nodes(3, row(1, 1, 0), row(2, 2, 0)),
		"the literal of Low is less":        nodes(3, row(1, 1, 0), row(2, 1, 2)),
		"two equal nodes":                   nodes(4, row(1, 1, 0), row(1, 1, 0), row(0, 2, 3)),
		"two equal nodes that are lower":    nodes(6, row(2, 1, 0), row(1, 2, 0), row(2, 1, 0), row(1, 0, 4), row(0, 3, 5)),
		"Low is listed before High":         nodes(4, row(2, 1, 0), row(1, 1, 0), row(0, 3, 2)),
		"a lower node is listed too late":   nodes(5, row(2, 0, 1), row(2, 1, 0), row(1, 3, 2), row(0, 4, 2)),
		"a node that nothing leads to":      nodes(3, row(1, 0, 1), row(0, 1, 0)),
		"a last node that nothing leads to": nodes(2, row(1, 0, 1), row(0, 1, 0)),
		"a node above Root":                 nodes(2, row(1, 1, 0), row(0, 2, 0)),
		"a node although Root is false":     nodes(0, row(0, 1, 0)),
		"a node although Root is true":      nodes(1, row(0, 1, 0)),
		"Root is negative":                  nodes(-1),
		"Root is negative, with nodes":      nodes(-1, row(0, 1, 0)),
		"Root does not exist":               nodes(2),
		"Root is behind the last node":      nodes(3, row(0, 1, 0)),
		"Root is the least number":          nodes(math.MinInt, row(0, 1, 0)),
		"Root is the greatest number":       nodes(math.MaxInt, row(0, 1, 0)),
	}
	for _, n := range badLiterals {
		all[fmt.Sprint("the literal ", n)] = nodes(2, row(n, 1, 0))
		all[fmt.Sprint("the literal of a lower node ", n)] = nodes(3, row(n, 1, 0), row(0, 2, 0))
	}
	for _, r := range []int{math.MinInt, -1, 3, 4, math.MaxInt} {
		all[fmt.Sprint("the High reference ", r)] = nodes(2, row(0, r, 0))
		all[fmt.Sprint("the Low reference ", r)] = nodes(2, row(0, 1, r))
	}
	return all
}

// P6.1: diagrams that break a condition.
func TestInvalid(t *testing.T) {
	for name, d := range invalid() {
		if diagram.Valid(d) || isValid(d) {
			t.Errorf("%s: %v is valid", name, d)
		}
	}
}

// P6.2, P6.3, P6.4: every other function takes a diagram that is not valid as False().
func TestInvalidCountsAsFalse(t *testing.T) {
	good := nodes(3, [3]int{1, 0, 1}, [3]int{0, 2, 0})
	for name, d := range invalid() {
		want(t, name, diagram.And(d, good), diagram.False())
		want(t, name, diagram.And(good, d), diagram.False())
		want(t, name, diagram.And(d, diagram.True()), diagram.False())
		want(t, name, diagram.Or(d, good), good)
		want(t, name, diagram.Or(good, d), good)
		want(t, name, diagram.Or(d, d), diagram.False())
		want(t, name, diagram.Not(d), diagram.True())
		for _, n := range []int{-1, 0, 1, api.MaxDiagram} {
			want(t, name, diagram.Restrict(d, n, true), diagram.False())
			want(t, name, diagram.Restrict(d, n, false), diagram.False())
		}
		for a := range uint(4) {
			if diagram.Evaluate(d, a) {
				t.Errorf("%s: Evaluate at %b is true", name, a)
			}
		}
		if diagram.Support(d) != nil || diagram.Paths(d) != nil {
			t.Errorf("%s: Support %v, Paths %v", name, diagram.Support(d), diagram.Paths(d))
		}
	}
}

// P6.1: of all diagrams of two literals with at most three nodes, exactly 16 are valid: one for each function.
func TestOneDiagramForEachFunction(t *testing.T) {
	var rows []api.DiagramNode
	for literal := range 2 {
		for high := range 5 {
			for low := range 5 {
				rows = append(rows, api.DiagramNode{Literal: literal, High: high, Low: low})
			}
		}
	}
	functions := map[string]int{}
	check := func(l ...api.DiagramNode) {
		for root := range len(l) + 3 {
			d := api.Diagram{Nodes: l, Root: root}
			if got := diagram.Valid(d); got != isValid(d) {
				t.Fatalf("Valid(%v) = %v", d, got)
			} else if got {
				functions[fmt.Sprint(diagram.Evaluate(d, 0), diagram.Evaluate(d, 1), diagram.Evaluate(d, 2), diagram.Evaluate(d, 3))]++
			}
		}
	}
	check()
	for _, a := range rows {
		check(a)
		for _, b := range rows {
			check(a, b)
			for _, c := range rows {
				check(a, b, c)
			}
		}
	}
	if len(functions) != 16 {
		t.Errorf("%d functions", len(functions))
	}
	for f, count := range functions {
		if count != 1 {
			t.Errorf("function %s has %d valid diagrams", f, count)
		}
	}
}

// P6.1: valid diagrams of which one or two numbers or places were changed.
func TestValidAfterChanges(t *testing.T) {
	r := rand.New(rand.NewSource(10))
	valid := 0
	for range 100000 {
		f := randomTable(r, []int{0, 3, 4, 11}, 0.5)
		d := f.diagram()
		for range 1 + r.Intn(2) {
			change(r, &d)
		}
		got := diagram.Valid(d)
		if got != isValid(d) {
			t.Fatalf("Valid(%v) = %v", d, got)
		}
		if got {
			valid++
		}
	}
	if valid < 1000 || valid > 99000 {
		t.Errorf("%d diagrams are valid", valid)
	}
}

func change(r *rand.Rand, d *api.Diagram) {
	count := len(d.Nodes)
	if count == 0 || r.Intn(8) == 0 {
		d.Root = r.Intn(count+4) - 1
		return
	}
	i, k := r.Intn(count), r.Intn(count)
	switch r.Intn(6) {
	case 0:
		d.Nodes[i].Literal = r.Intn(14) - 1
	case 1:
		d.Nodes[i].High = r.Intn(i + 3)
	case 2:
		d.Nodes[i].Low = r.Intn(i + 3)
	case 3:
		d.Nodes[i], d.Nodes[k] = d.Nodes[k], d.Nodes[i]
	case 4:
		d.Nodes = slices.Insert(d.Nodes, i, d.Nodes[k])
	case 5:
		d.Nodes[i].High, d.Nodes[i].Low = d.Nodes[i].Low, d.Nodes[i].High
	}
}

// R1, P6.1: diagrams that are long, or deep but for their literals.
func TestLongDiagrams(t *testing.T) {
	const count = 300000
	var chain [][3]int
	for i := range count {
		chain = append(chain, [3]int{max(0, 11-i), i + 1, 0})
	}
	equal := slices.Repeat([][3]int{{11, 1, 0}}, count)
	for _, rows := range [][][3]int{chain, equal} {
		for _, root := range []int{0, 1, 2, count, count + 1, count + 2} {
			if d := nodes(root, rows...); diagram.Valid(d) || diagram.Evaluate(d, 1) {
				t.Errorf("a long diagram with the root %d is valid", root)
			}
		}
	}
	if d := nodes(13, chain[:12]...); !diagram.Valid(d) || !diagram.Evaluate(d, 1<<12-1) {
		t.Error("a chain of all literals is not valid")
	}
}
