package record

import (
	"slices"

	"semtype/api"
	"semtype/choices"
	"semtype/ident"
	"semtype/known"
	"semtype/lines"
)

// frame is what the nodes of Pos ask of maps.
type frame struct {
	nodes  []api.TypeNode
	listed []place  // ascending by key
	others [2]place // all other atom keys, and all other string keys
}

// place is a listed key, or all other keys of a kind.
type place struct {
	key    api.Key // of other keys the Kind only
	listed bool
	state  int      // of other keys it is never KeyPresent
	values api.Goal // without Neg
}

// anything is the index of a way that asks for a key, whatever its value is.
const anything = -1

// newFrame returns what the nodes of pos ask of maps, and false if no map is so.
func newFrame(nodes []api.TypeNode, keys []api.Key, pos []int) (f *frame, possible bool) {
	f = &frame{nodes: nodes}
	for _, k := range keys {
		f.listed = append(f.listed, place{key: k, listed: true})
	}
	for kind := range f.others {
		f.others[kind].key.Kind = kind
	}
	for i := range f.size() {
		if !f.meet(f.place(i), pos) {
			return nil, false
		}
	}
	return f, true
}

// size returns the number of places: those of the listed keys come first.
func (f *frame) size() int { return len(f.listed) + len(f.others) }

func (f *frame) place(i int) *place {
	if i < len(f.listed) {
		return &f.listed[i]
	}
	return &f.others[i-len(f.listed)]
}

// meet makes the place what the nodes of pos ask, and reports whether they do not ask for a key without a value.
func (f *frame) meet(p *place, pos []int) bool {
	isClosed := false
	p.state = api.KeyEither
	for _, m := range pos {
		n, required := p.in(&f.nodes[m])
		p.values.Pos = append(p.values.Pos, n)
		isClosed = isClosed || f.nodes[n].Kind == api.TNone
		if required {
			p.state = api.KeyPresent
		}
	}
	p.values = lines.Normal(p.values)
	if isClosed && p.state == api.KeyPresent {
		return false
	}
	if isClosed {
		p.state = api.KeyAbsent
	}
	return true
}

// in returns the node that m has for the values at the place, and whether m requires the key.
func (p *place) in(m *api.TypeNode) (n int, required bool) {
	if p.listed {
		i, found := slices.BinarySearchFunc(m.Fields, p.key, func(f api.Field, k api.Key) int { return ident.CompareKeys(f.Key, k) })
		if found {
			return m.Fields[i].Node, !m.Fields[i].Optional
		}
	}
	return m.Rest[p.key.Kind], false
}

// outside returns for each node of neg of which some maps of the frame are members the ways to be none, less those that the frame rules out.
func (f *frame) outside(neg []int) (rows [][]choices.Way) {
	for _, m := range neg {
		if row, always := f.violations(&f.nodes[m]); !always {
			rows = append(rows, row)
		}
	}
	return rows
}

// violations returns the ways to be no member of m, unless that is always so. Their places are those of the frame; a way that is Alone asks that the key is absent.
func (f *frame) violations(m *api.TypeNode) (row []choices.Way, always bool) {
	for i := range f.size() {
		p := f.place(i)
		n, required := p.in(m)
		hasNone := f.hasNone(n, p.values)
		if required && p.state == api.KeyAbsent || hasNone && p.state == api.KeyPresent {
			return nil, true
		}
		if required && p.state == api.KeyEither {
			row = append(row, choices.Way{Place: i, Alone: true})
		}
		switch {
		case p.state == api.KeyAbsent || f.hasAll(n, p.values):
		case hasNone:
			row = append(row, choices.Way{Place: i, Index: anything})
		default:
			row = append(row, choices.Way{Place: i, Index: n})
		}
	}
	return row, false
}

// hasAll reports whether node n is known to have all values of the goal: those of one of its nodes of Pos.
func (f *frame) hasAll(n int, g api.Goal) bool {
	if f.nodes[n].Kind == api.TAny {
		return true
	}
	return slices.ContainsFunc(g.Pos, func(m int) bool { return known.Within(f.nodes, m, n) })
}

// hasNone reports whether node n is known to have no value of the goal.
func (f *frame) hasNone(n int, g api.Goal) bool {
	return known.Apart(f.nodes, n, n) || slices.ContainsFunc(g.Pos, func(m int) bool { return known.Apart(f.nodes, m, n) })
}

// shape returns the shape of the maps of the frame for which these ways hold.
func (f *frame) shape(taken []choices.Way) (s api.Shape) {
	for _, p := range f.listed {
		s.Keys, s.States, s.Parts = append(s.Keys, p.key), append(s.States, p.state), append(s.Parts, p.values)
	}
	for kind, p := range f.others {
		s.Rest[kind] = lines.Normal(p.values)
	}
	for _, way := range taken {
		i, kind := way.Place, way.Place-len(f.listed)
		switch {
		case kind >= 0:
			g := api.Goal{Pos: f.others[kind].values.Pos, Neg: excluded(way)}
			s.Some = append(s.Some, api.SomeKey{Kind: kind, Goal: lines.Normal(g)})
		case way.Alone:
			s.States[i] = api.KeyAbsent
		default:
			s.States[i], s.Parts[i].Neg = api.KeyPresent, append(s.Parts[i].Neg, excluded(way)...)
		}
	}
	for i, g := range s.Parts {
		if s.Parts[i] = lines.Normal(g); s.States[i] == api.KeyAbsent {
			s.Parts[i] = api.Goal{}
		}
	}
	return s
}

// excluded returns the node that the value is no member of.
func excluded(way choices.Way) []int {
	if way.Index == anything {
		return nil
	}
	return []int{way.Index}
}
