package presence

import (
	"math/bits"

	"emend/bdd"
)

// each hands over the sets for which a condition holds, rising, as long as it is told to go on.
func each(a *bdd.Arena, n bdd.Node, do func(set int) bool) {
	for set := range 1 << a.Vars() {
		if holds, _ := a.Holds(n, set); holds && !do(set) {
			return
		}
	}
}

// decided is the condition that holds for a set of which do tells so. It is asked of the sets that have some of the names yet, and of the others those of set.
func decided(a *bdd.Arena, yet, set int, do func(set int) bool) bdd.Node {
	if yet == 0 {
		if do(set) {
			return always
		}
		return never
	}
	top := bits.Len(uint(yet)) - 1
	name, _ := a.Var(top)
	without := decided(a, yet&^(1<<top), set, do)
	with := decided(a, yet&^(1<<top), set|1<<top, do)
	n, _ := a.Ite(name, with, without)
	return n
}

// moved are conditions of one arena as those of another one, which has as many names.
func moved(from, to *bdd.Arena, nodes []bdd.Node) []bdd.Node {
	every := 1<<to.Vars() - 1
	known := map[bdd.Node]bdd.Node{}
	var out []bdd.Node
	for _, n := range nodes {
		if _, again := known[n]; !again {
			known[n] = decided(to, every, 0, func(set int) bool {
				holds, _ := from.Holds(n, set)
				return holds
			})
		}
		out = append(out, known[n])
	}
	return out
}
