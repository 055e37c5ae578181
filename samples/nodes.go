// Package samples has the values and the types with which the tests of several layers work. No layer uses it.
package samples

import (
	"strings"

	"semtype/api"
)

// Graph returns the type with these nodes whose root is the first one.
func Graph(l ...api.TypeNode) api.Type { return api.Type{Nodes: l} }

// Node returns a node with Kids only.
func Node(kind int, kids ...int) api.TypeNode { return api.TypeNode{Kind: kind, Kids: kids} }

// Text returns a node with a Text only.
func Text(kind int, s string) api.TypeNode { return api.TypeNode{Kind: kind, Text: s} }

// Range returns the node of the integers from lo to hi.
func Range(lo, hi int64) api.TypeNode { return api.TypeNode{Kind: api.TInt, Lo: lo, Hi: hi} }

// Record returns a node of maps, with the types of all other atom keys and of all other string keys.
func Record(atoms, strings int, fields ...api.Field) api.TypeNode {
	return api.TypeNode{Kind: api.TMap, Fields: fields, Rest: [2]int{atoms, strings}}
}

// Field returns a field with this Key.
func Field(name string, node int) api.Field { return api.Field{Key: Key(name), Node: node} }

// Optional returns an optional field with this Key.
func Optional(name string, node int) api.Field {
	return api.Field{Key: Key(name), Node: node, Optional: true}
}

// Key returns an atom key, or a string key if name begins with a quote.
func Key(name string) api.Key {
	if text, quoted := strings.CutPrefix(name, "\""); quoted {
		return api.Key{Kind: api.KeyString, Text: text}
	}
	return api.Key{Kind: api.KeyAtom, Text: name}
}
