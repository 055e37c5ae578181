package goal

import (
	"slices"

	"semtype/api"
	"semtype/goalkey"
	"semtype/lines"
	"semtype/value"
)

// Split returns the index of an alternative that fits v, and for each of its subgoals a part of v that is in it. The arity of a function need not be that of the alternative, but one with its arity comes first.
func Split(t api.Type, l []api.Alternative, v api.Value) (int, []api.Value, bool) {
	s := newSplitter(t, v)
	for _, preferred := range []bool{true, false} {
		for i, a := range l {
			if (v.Kind != api.VFun || a.Leaf.Int == v.Int) != preferred {
				continue
			}
			if parts, fits := s.fit(a); fits {
				return i, parts, true
			}
		}
	}
	return 0, nil, false
}

// splitter has the parts of a value, and keeps what it has found out about them, since many alternatives may ask for the same goals.
type splitter struct {
	t         api.Type
	kind      int
	parts     []api.Value // the Kids, or the Args and Results of the entries
	entries   []placedEntry
	questions map[string]*question // by the keys of their goals
}

// placedEntry is an entry with the index of its first part.
type placedEntry struct {
	api.Entry
	first int
}

// question is a goal, with an answer for each part.
type question struct {
	goal    api.Goal
	answers []answer
}

type answer int8

const (
	unknown answer = iota
	in
	out
)

func newSplitter(t api.Type, v api.Value) *splitter {
	s := &splitter{t: t, kind: v.Kind, questions: map[string]*question{}}
	switch v.Kind {
	case api.VTuple, api.VCons, api.VMap:
		s.parts = v.Kids
	case api.VFun:
		for _, e := range v.Entries {
			s.entries = append(s.entries, placedEntry{e, len(s.parts)})
			s.parts = append(s.parts, e.Args...)
			if !e.Fails {
				s.parts = append(s.parts, e.Result)
			}
		}
	}
	return s
}

func (s *splitter) questionOf(g api.Goal) *question {
	k := goalkey.Of(g)
	q := s.questions[k]
	if q == nil {
		q = &question{g, make([]answer, len(s.parts))}
		s.questions[k] = q
	}
	return q
}

// fit returns a part for each subgoal of a, and whether there are such parts.
func (s *splitter) fit(a api.Alternative) ([]api.Value, bool) {
	inOrder := s.kind == api.VTuple || s.kind == api.VCons
	if a.Leaf.Kind != s.kind || inOrder && len(a.Subgoals) != len(s.parts) {
		return nil, false
	}
	c := newCandidate(s, a)
	if inOrder && !c.takeInOrder() || s.kind == api.VFun && !c.takeForForms() || !c.takeOthers() {
		return nil, false
	}
	parts := make([]api.Value, len(c.taken))
	for i, part := range c.taken {
		parts[i] = s.parts[part]
	}
	return value.Tuple(parts...).Kids, true
}

// candidate is an alternative with the parts that are taken for its subgoals.
type candidate struct {
	*splitter
	api.Alternative
	asked []*question // for each subgoal
	taken []int       // for each subgoal the index of a part, or none
}

const none = -1

func newCandidate(s *splitter, a api.Alternative) *candidate {
	c := &candidate{splitter: s, Alternative: a}
	for _, g := range a.Subgoals {
		c.asked, c.taken = append(c.asked, s.questionOf(g)), append(c.taken, none)
	}
	return c
}

func (c *candidate) isIn(part, subgoal int) bool {
	q := c.asked[subgoal]
	if q.answers[part] == unknown {
		q.answers[part] = out
		if lines.InGoal(c.parts[part], c.t, q.goal) {
			q.answers[part] = in
		}
	}
	return q.answers[part] == in
}

func (c *candidate) takeInOrder() bool {
	for i := range c.Subgoals {
		if !c.isIn(i, i) {
			return false
		}
		c.taken[i] = i
	}
	return true
}

// takeOthers takes any part for each subgoal for which none is taken.
func (c *candidate) takeOthers() bool {
	for i := range c.Subgoals {
		for part := 0; c.taken[i] == none; part++ {
			if part == len(c.parts) {
				return false
			}
			if c.isIn(part, i) {
				c.taken[i] = part
			}
		}
	}
	return true
}

// takeForForms takes an entry for each form. Which one matters only to forms that share subgoals: they are left to the end.
func (c *candidate) takeForForms() bool {
	uses := c.countUses()
	var sharing []api.Form
	for _, f := range c.Forms {
		i := slices.IndexFunc(c.entries, func(e placedEntry) bool { return c.isOf(e, f) })
		if i < 0 {
			return false
		}
		if slices.ContainsFunc(indicesOf(f), func(n int) bool { return uses[n] > 1 }) {
			sharing = append(sharing, f)
		} else {
			c.takeEntry(c.entries[i], f)
		}
	}
	return c.takeForSharing(sharing)
}

// countUses returns how often each index occurs in the forms.
func (c *candidate) countUses() map[int]int {
	uses := map[int]int{}
	for _, f := range c.Forms {
		for _, n := range indicesOf(f) {
			uses[n]++
		}
	}
	return uses
}

// isOf reports whether the entry is of the form, if no other form is considered.
func (c *candidate) isOf(e placedEntry, f api.Form) bool {
	if e.Fails != f.Fails || len(e.Args) != len(f.Args) {
		return false
	}
	for i, n := range indicesOf(f) {
		if n < 0 || n >= len(c.Subgoals) || !c.isIn(e.first+i, n) {
			return false
		}
	}
	return true
}

// takeEntry takes the parts of e for the subgoals of f, and reports whether no other values were taken for them.
func (c *candidate) takeEntry(e placedEntry, f api.Form) bool {
	for i, n := range indicesOf(f) {
		part := e.first + i
		if c.taken[n] != none && !value.Equal(c.parts[c.taken[n]], c.parts[part]) {
			return false
		}
		c.taken[n] = part
	}
	return true
}

// takeForSharing tries all entries for the first form, each with all entries for the others.
func (c *candidate) takeForSharing(forms []api.Form) bool {
	if len(forms) == 0 {
		return true
	}
	before := slices.Clone(c.taken)
	for _, e := range c.entries {
		if c.isOf(e, forms[0]) && c.takeEntry(e, forms[0]) && c.takeForSharing(forms[1:]) {
			return true
		}
		copy(c.taken, before)
	}
	return false
}
