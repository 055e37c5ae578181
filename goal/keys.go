package goal

import (
	"strconv"

	"semtype/api"
	"semtype/goalkey"
)

// keyOf tells alternatives of Alternatives apart that different values fit. Kinds without parts have one key each, and neither Labels nor Keys count.
func keyOf(a api.Alternative) string {
	b := strconv.AppendInt(nil, int64(a.Leaf.Kind), 10)
	if a.Leaf.Kind == api.VFun {
		b = strconv.AppendInt(append(b, '/'), a.Leaf.Int, 10)
	}
	for _, f := range a.Forms {
		b = strconv.AppendBool(append(b, ' '), f.Fails)
	}
	return string(b) + goalkey.Of(a.Subgoals...)
}

func keyOfForm(f api.EntryForm) string {
	return strconv.FormatBool(f.Fails) + goalkey.Of(append([]api.Goal{f.Result}, f.Args...)...)
}
