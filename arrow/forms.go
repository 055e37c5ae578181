package arrow

import (
	"slices"

	"semtype/api"
	"semtype/choices"
	"semtype/known"
	"semtype/lines"
	"semtype/typeexpr"
)

// Forms returns forms that have, together, the entries that each function node of pos allows and neg does not.
func Forms(t api.Type, pos []int, neg int) ([]api.EntryForm, api.Code) {
	if typeexpr.WellFormed(t) != api.OK || !isFunction(t, neg) || !areFunctions(t, pos, arityOf(t, neg)) {
		return nil, api.ErrInvalid
	}
	var forms []api.EntryForm
	for _, fails := range []bool{true, false} {
		f := frame{t.Nodes, t.Nodes[neg].Kids, fails}
		if f.isKnownEmpty() {
			continue
		}
		for taken := range choices.Sets(f.agreements(pos)) {
			forms = append(forms, f.form(taken))
		}
	}
	return forms, api.OK
}

// frame is what makes a node allow an entry no more: the arguments are in the parameters, and the entry fails, or its result is not in the last Kid.
type frame struct {
	nodes []api.TypeNode
	kids  []int // of the node
	fails bool
}

func (f *frame) params() []int { return f.kids[:f.arity()] }

func (f *frame) result() int { return f.kids[f.arity()] }

func (f *frame) arity() int { return len(f.kids) - 1 }

// isKnownEmpty reports whether it is known at once that no entry is so.
func (f *frame) isKnownEmpty() bool {
	isEmpty := func(n int) bool { return known.Apart(f.nodes, n, n) }
	return slices.ContainsFunc(f.params(), isEmpty) || !f.fails && f.nodes[f.result()].Kind == api.TAny
}

// agreements returns for each node of pos that does not allow all entries of the frame anyway the ways to be an entry that it allows.
func (f *frame) agreements(pos []int) (rows [][]choices.Way) {
	for _, n := range pos {
		if row, always := f.agreement(f.nodes[n].Kids); !always {
			rows = append(rows, row)
		}
	}
	return rows
}

// agreement returns the ways to be an entry that the node with these Kids allows, less those that the frame rules out, unless each entry of the frame is one. The place of a way is a parameter that the argument is not in, or, after all parameters, the last Kid, which the result is in.
func (f *frame) agreement(kids []int) (row []choices.Way, always bool) {
	for i, param := range f.params() {
		if known.Apart(f.nodes, param, kids[i]) {
			return nil, true
		}
		if !known.Within(f.nodes, param, kids[i]) {
			row = append(row, choices.Way{Place: i, Index: kids[i]})
		}
	}
	if f.fails {
		return row, false
	}
	last := kids[f.arity()]
	if !known.Within(f.nodes, last, f.result()) {
		row = append(row, choices.Way{Place: f.arity(), Index: last})
	}
	return row, f.nodes[last].Kind == api.TAny
}

// form returns the form of the entries of the frame for which these ways hold.
func (f *frame) form(taken []choices.Way) api.EntryForm {
	args, result := make([]api.Goal, f.arity()), api.Goal{}
	for i, param := range f.params() {
		args[i].Pos = []int{param}
	}
	if !f.fails {
		result.Neg = []int{f.result()}
	}
	for _, way := range taken {
		if way.Place < f.arity() {
			args[way.Place].Neg = append(args[way.Place].Neg, way.Index)
		} else {
			result.Pos = append(result.Pos, way.Index)
		}
	}
	for i, g := range args {
		args[i] = lines.Normal(g)
	}
	return api.EntryForm{Args: args, Fails: f.fails, Result: lines.Normal(result)}
}
