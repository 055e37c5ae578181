package lines

import (
	"slices"
	"strconv"

	"semtype/api"
)

// partial is a conjunction within one class: of a base, of facts about nodes that ask for parts or labels, and of choices, which are facts that hold if one of several others does. The facts are ascending.
type partial struct {
	base     base
	literals []fact
	choices  []fact
}

// key tells partial conjunctions apart that differ in more than the base.
func (p partial) key() string {
	var b []byte
	for _, f := range slices.Concat(p.literals, p.choices) {
		b = append(strconv.AppendInt(b, int64(f), 36), ' ')
	}
	return string(b)
}

// choice says that the value is in the base, or that one of the facts holds. It says nothing if met.
type choice struct {
	met   bool
	base  base
	facts []fact
}

func (c choice) options() int {
	if c.base.isEmpty() {
		return len(c.facts)
	}
	return len(c.facts) + 1
}

// expansion takes partial conjunctions from its work list, and puts in the place of each one those for the options of one of its choices, until none has a choice.
type expansion struct {
	*reading
	work []partial
	seen map[string]base // by key
	done []partial
}

// expand returns conjunctions without choices that have, together, the values of which all facts hold.
func (r *reading) expand(facts []fact) []partial {
	e := expansion{reading: r, seen: map[string]base{}}
	e.assume(partial{base: all(r.kind)}, facts...)
	for len(e.work) > 0 {
		last := len(e.work) - 1
		p := e.work[last]
		e.work = e.work[:last]
		e.decide(p)
	}
	return e.done
}

// assume adds p to the work list with these facts, unless they are impossible.
func (e *expansion) assume(p partial, facts ...fact) {
	parts, impossible := e.gather(api.TInter, facts...)
	if impossible {
		return
	}
	var bases []base
	var literals, choices []fact
	for _, f := range parts {
		switch {
		case e.truthOf(f) == inBase:
			bases = append(bases, e.baseOf(f))
		case e.joins(f) != 0:
			choices = append(choices, f)
		default:
			literals = append(literals, f)
		}
	}
	p.base = join(p.base, bases, base.intersect)
	p.literals = union(p.literals, literals)
	p.choices = union(p.choices, choices)
	if !p.base.isEmpty() && !haveOpposites(p.literals) {
		e.work = append(e.work, p)
	}
}

func haveOpposites(l []fact) bool {
	for i := 1; i < len(l); i++ {
		if l[i-1] == l[i].opposite() {
			return true
		}
	}
	return false
}

// decide takes the choice with the fewest options, so that those that are impossible are found early.
func (e *expansion) decide(p partial) {
	p, rest := e.withoutMet(p)
	if e.wasSeen(p) {
		return
	}
	if len(rest) == 0 {
		e.done = append(e.done, p)
		return
	}
	least := 0
	for i, c := range rest {
		if c.options() < rest[least].options() {
			least = i
		}
	}
	p.choices = slices.Delete(slices.Clone(p.choices), least, least+1)
	for _, f := range rest[least].facts {
		e.assume(p, f)
	}
	if p.base = rest[least].base; !p.base.isEmpty() {
		e.work = append(e.work, p)
	}
}

// withoutMet returns p without the choices that are met, and what remains of the others.
func (e *expansion) withoutMet(p partial) (partial, []choice) {
	var choices []fact
	var rest []choice
	for _, f := range p.choices {
		if c := p.remaining(e.choiceOf(f)); !c.met {
			choices, rest = append(choices, f), append(rest, c)
		}
	}
	p.choices = choices
	return p, rest
}

// remaining returns what c says of the values of p.
func (p partial) remaining(c choice) choice {
	if c.met || slices.ContainsFunc(c.facts, func(f fact) bool { return contains(p.literals, f) }) {
		return choice{met: true}
	}
	var rest choice
	if !c.base.isEmpty() {
		rest.base = p.base.intersect(c.base)
		rest.met = p.base.isSubset(rest.base)
	}
	for _, f := range c.facts {
		if !contains(p.literals, f.opposite()) {
			rest.facts = append(rest.facts, f)
		}
	}
	return rest
}

// choiceOf returns what is to be chosen from for the fact, whatever else holds.
func (r *reading) choiceOf(f fact) choice {
	if c, known := r.choices[f]; known {
		return c
	}
	parts, met := r.gather(api.TUnion, f)
	c := choice{met: met}
	var bases []base
	for _, part := range parts {
		if r.truthOf(part) == inBase {
			bases = append(bases, r.baseOf(part))
		} else {
			c.facts = append(c.facts, part)
		}
	}
	c.base = join(base{}, bases, base.union)
	r.choices[f] = c
	return c
}

// wasSeen reports whether conjunctions that are the same as p but for their bases, which have all of p's values, have been seen; from now on p has.
func (e *expansion) wasSeen(p partial) bool {
	key := p.key()
	b := e.seen[key]
	if p.base.isSubset(b) {
		return true
	}
	e.seen[key] = b.union(p.base)
	return false
}
