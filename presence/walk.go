package presence

import (
	"emend/api"
	"emend/bdd"
)

// walk tells of each line with which names it is read.
type walk struct {
	arena *bdd.Arena
	names []string
	lines []api.Line
	nodes []bdd.Node
}

// items tells of what is read where a condition holds; of an error the line comes with it.
func (w walk) items(l []api.Item, around bdd.Node) (line int, e api.Errno) {
	for _, x := range l {
		// The end of what is no conditional is the line itself; a conditional's other lines come with its branches.
		w.nodes[x.End] = around
		if line, e := w.branches(x.Branches, around); e != api.OK {
			return line, e
		}
	}
	return 0, api.OK
}

// branches tells of a conditional that is read where a condition holds.
func (w walk) branches(l []api.Branch, around bdd.Node) (line int, e api.Errno) {
	left := around
	for _, b := range l {
		w.nodes[b.Line] = around
		taken, e := Cond(w.arena, w.names, w.lines[b.Line], left)
		if e != api.OK {
			return b.Line, e
		}
		if line, e := w.items(b.Items, taken); e != api.OK {
			return line, e
		}
		left = w.without(left, taken)
	}
	return 0, api.OK
}

// without is where one condition holds, and another one doesn't.
func (w walk) without(n, other bdd.Node) bdd.Node {
	// Both are conditions of the arena, so that no call has an error to tell.
	contrary, _ := w.arena.Not(other)
	rest, _ := w.arena.And(n, contrary)
	return rest
}
