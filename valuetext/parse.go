package valuetext

import (
	"strconv"
	"strings"

	"semtype/api"
	"semtype/ident"
	"semtype/value"
)

// Parse returns the valid value whose notation is s.
func Parse(s string) (api.Value, api.Code) {
	p := parser{rest: s}
	v, ok := p.value()
	if !ok || p.rest != "" || value.Validate(v) != api.OK {
		return api.Value{}, api.ErrSyntax
	}
	return v, api.OK
}

// A parser reads the notation exactly, down to its spaces. It leaves what makes a value valid to value.Validate: limits, orders, and the kinds of tails.
type parser struct {
	rest  string
	depth int
}

// maxDepth is more than the document's bound of 2^16 levels. Whatever is nested deeper is refused, since it could exhaust the stack.
const maxDepth = 1 << 17

func (p *parser) value() (api.Value, bool) {
	if p.depth == maxDepth {
		return api.Value{}, false
	}
	p.depth++
	v, ok := p.unlabelled()
	p.depth--
	if ok && p.accept("@(") {
		v.Labels, ok = sequence(p, p.label, " ")
		ok = ok && p.accept(")")
	}
	return v, ok
}

func (p *parser) unlabelled() (api.Value, bool) {
	switch {
	case p.accept("{"):
		kids, ok := enclosed(p, p.value, "}")
		return api.Value{Kind: api.VTuple, Kids: kids}, ok
	case p.accept("["):
		return p.list()
	case p.accept("%{"):
		return p.mapping()
	case p.accept("fun/"):
		return p.function()
	case p.accept("#"):
		n, ok := p.number()
		return api.Value{Kind: api.VPid, Int: n}, ok
	case p.rest != "" && isNumeral(p.rest[0]):
		n, ok := p.number()
		return api.Value{Kind: api.VInt, Int: n}, ok
	}
	return p.atomOrString()
}

// accept takes s off the rest if the rest begins with it.
func (p *parser) accept(s string) bool {
	rest, ok := strings.CutPrefix(p.rest, s)
	p.rest = rest
	return ok
}

// take takes the longest beginning off the rest all of whose bytes belong.
func (p *parser) take(belongs func(byte) bool) string {
	n := 0
	for n < len(p.rest) && belongs(p.rest[n]) {
		n++
	}
	return p.cut(n)
}

func (p *parser) cut(n int) string {
	s := p.rest[:n]
	p.rest = p.rest[n:]
	return s
}

// sequence reads one item or more.
func sequence[T any](p *parser, item func() (T, bool), separator string) ([]T, bool) {
	var l []T
	for len(l) == 0 || p.accept(separator) {
		x, ok := item()
		if !ok {
			return nil, false
		}
		l = append(l, x)
	}
	return l, true
}

// enclosed reads any number of items, separated by a comma and a space, and the end behind them.
func enclosed[T any](p *parser, item func() (T, bool), end string) ([]T, bool) {
	if p.accept(end) {
		return nil, true
	}
	l, ok := sequence(p, item, ", ")
	return l, ok && p.accept(end)
}

// number refuses what does not look like the number that it denotes, such as -0.
func (p *parser) number() (int64, bool) {
	s := p.take(isNumeral)
	n, err := strconv.ParseInt(s, 10, 64)
	return n, err == nil && strconv.FormatInt(n, 10) == s
}

func isNumeral(c byte) bool { return '0' <= c && c <= '9' || c == '-' }

func (p *parser) label() (string, bool) {
	s := p.take(isNameByte)
	return s, ident.IsVariable(s)
}

func isNameByte(c byte) bool {
	return 'a' <= c && c <= 'z' || 'A' <= c && c <= 'Z' || '0' <= c && c <= '9' || c == '_'
}

func (p *parser) atomOrString() (api.Value, bool) {
	k, ok := p.key()
	kind := api.VAtom
	if k.Kind == api.KeyString {
		kind = api.VString
	}
	return api.Value{Kind: kind, Text: k.Text}, ok
}

// key reads a key, whose notation is also that of an atom or a string.
func (p *parser) key() (api.Key, bool) {
	s := ""
	if strings.HasPrefix(p.rest, `"`) {
		s = p.cut(quotedSize(p.rest))
	} else {
		s = p.take(isNameByte)
	}
	k, code := ident.ParseKey(s)
	return k, code == api.OK
}

// quotedSize returns the size of the quoted text that begins s: all of s if the text does not end.
func quotedSize(s string) int {
	for i := 1; i < len(s); i++ {
		switch s[i] {
		case '\\':
			i++
		case '"':
			return i + 1
		}
	}
	return len(s)
}

// list reads what is behind the bracket. A tail without labels is never written behind a bar.
func (p *parser) list() (api.Value, bool) {
	if p.accept("]") {
		return value.Nil(), true
	}
	elements, ok := sequence(p, p.value, ", ")
	list := value.Nil()
	if ok && p.accept(" | ") {
		list, ok = p.value()
		ok = ok && len(list.Labels) > 0
	}
	if !ok || !p.accept("]") {
		return api.Value{}, false
	}
	for len(elements) > 0 {
		last := len(elements) - 1
		list = api.Value{Kind: api.VCons, Kids: []api.Value{elements[last], list}}
		elements = elements[:last]
	}
	return list, true
}

type field struct {
	key   api.Key
	value api.Value
}

func (p *parser) mapping() (api.Value, bool) {
	fields, ok := enclosed(p, p.field, "}")
	v := api.Value{Kind: api.VMap}
	for _, f := range fields {
		v.Keys = append(v.Keys, f.key)
		v.Kids = append(v.Kids, f.value)
	}
	return v, ok
}

func (p *parser) field() (field, bool) {
	k, ok := p.key()
	if !ok || !p.accept(": ") {
		return field{}, false
	}
	v, ok := p.value()
	return field{k, v}, ok
}

func (p *parser) function() (api.Value, bool) {
	arity, ok := p.number()
	if !ok || !p.accept("{") {
		return api.Value{}, false
	}
	entries, ok := enclosed(p, p.entry, "}")
	return api.Value{Kind: api.VFun, Int: arity, Entries: entries}, ok
}

func (p *parser) entry() (api.Entry, bool) {
	if !p.accept("(") {
		return api.Entry{}, false
	}
	args, ok := enclosed(p, p.value, ") -> ")
	if !ok {
		return api.Entry{}, false
	}
	if p.accept("!") {
		return api.Entry{Args: args, Fails: true}, true
	}
	result, ok := p.value()
	return api.Entry{Args: args, Result: result}, ok
}
