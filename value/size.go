package value

import "semtype/api"

// Nodes returns the number of nodes of v.
func Nodes(v api.Value) int {
	n := 1 + sumNodes(v.Kids)
	for _, e := range v.Entries {
		n += sumNodes(e.Args)
		if !e.Fails {
			n += Nodes(e.Result)
		}
	}
	return n
}

func sumNodes(l []api.Value) int {
	n := 0
	for _, v := range l {
		n += Nodes(v)
	}
	return n
}

// Height returns the number of nodes on the longest path from v down.
func Height(v api.Value) int {
	below := maxHeight(v.Kids)
	for _, e := range v.Entries {
		below = max(below, maxHeight(e.Args))
		if !e.Fails {
			below = max(below, Height(e.Result))
		}
	}
	return 1 + below
}

func maxHeight(l []api.Value) int {
	h := 0
	for _, v := range l {
		h = max(h, Height(v))
	}
	return h
}
