package goal

import (
	"strconv"

	"semtype/api"
)

// keyOf tells alternatives of Alternatives apart that different values fit. Kinds without parts have one key each, and neither Labels nor Keys count.
func keyOf(a api.Alternative) string {
	b := strconv.AppendInt(nil, int64(a.Leaf.Kind), 10)
	if a.Leaf.Kind == api.VFun {
		b = strconv.AppendInt(append(b, '/'), a.Leaf.Int, 10)
	}
	for _, f := range a.Forms {
		b = strconv.AppendBool(append(b, ' '), f.Fails)
	}
	return string(appendGoals(b, a.Subgoals...))
}

func keyOfForm(f api.EntryForm) string {
	return string(appendGoals(strconv.AppendBool(nil, f.Fails), append([]api.Goal{f.Result}, f.Args...)...))
}

func keyOfGoal(g api.Goal) string { return string(appendGoals(nil, g)) }

func appendGoals(b []byte, l ...api.Goal) []byte {
	for _, g := range l {
		b = strconv.AppendBool(append(b, ';'), g.Lists)
		for _, n := range g.Pos {
			b = strconv.AppendInt(append(b, '+'), int64(n), 10)
		}
		for _, n := range g.Neg {
			b = strconv.AppendInt(append(b, '-'), int64(n), 10)
		}
	}
	return b
}
