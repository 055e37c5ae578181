// Package goalkey tells goals apart by strings, which are keys of maps.
package goalkey

import (
	"strconv"

	"semtype/api"
)

// Of returns strings that differ for lists of goals that differ. Goals in normal form that have the same nodes have the same string.
func Of(l ...api.Goal) string {
	var b []byte
	for _, g := range l {
		b = strconv.AppendBool(append(b, ';'), g.Lists)
		for _, n := range g.Pos {
			b = strconv.AppendInt(append(b, '+'), int64(n), 10)
		}
		for _, n := range g.Neg {
			b = strconv.AppendInt(append(b, '-'), int64(n), 10)
		}
	}
	return string(b)
}
