// Package bdd is layer 1, conditions over sets of names: see shared/doc/01-bdd.md.
package bdd

import "emend/api"

// Node is a condition: never, always, or the number of a decision.
type Node int

const (
	never  Node = 0
	always Node = 1
	lowest Node = 2 // the number of an arena's first decision
)

// Arena keeps conditions. A decision is never kept twice, nor one that does not matter, nor one below another of a lesser name: so conditions that hold for the same sets have the same number.
type Arena struct {
	vars      int
	decisions []decision
	numbers   map[decision]Node
}

// New is one of so many names.
func New(vars int) (*Arena, api.Errno) {
	if vars < 0 || vars > api.MaxVars {
		return nil, api.ErrArg
	}
	return &Arena{vars: vars, numbers: map[decision]Node{}}, api.OK
}

// Vars is how many names there are; where New told an error, the arena that is none has no names, so that no call on it panics.
func (a *Arena) Vars() int {
	if a == nil {
		return 0
	}
	return a.vars
}

// Var holds where a name is.
func (a *Arena) Var(i int) (Node, api.Errno) {
	if !a.hasName(i) {
		return never, api.ErrArg
	}
	return a.decide(decision{name: i, without: never, with: always}), api.OK
}

// Not is the contrary.
func (a *Arena) Not(n Node) (Node, api.Errno) {
	return a.join(n, n, func(holds, _ bool) bool { return !holds })
}

// And is both.
func (a *Arena) And(n, m Node) (Node, api.Errno) {
	return a.join(n, m, func(one, other bool) bool { return one && other })
}

// Or is one of them.
func (a *Arena) Or(n, m Node) (Node, api.Errno) {
	return a.join(n, m, func(one, other bool) bool { return one || other })
}

// Xor is just one of them.
func (a *Arena) Xor(n, m Node) (Node, api.Errno) {
	return a.join(n, m, func(one, other bool) bool { return one != other })
}

// Ite is a choice.
func (a *Arena) Ite(c, n, m Node) (Node, api.Errno) {
	if !a.knows(c, n, m) {
		return never, api.ErrNode
	}
	return a.choose(c, n, m), api.OK
}

// Restrict is it with a name told.
func (a *Arena) Restrict(n Node, i int, to bool) (Node, api.Errno) {
	if !a.knows(n) {
		return never, api.ErrNode
	}
	if !a.hasName(i) {
		return never, api.ErrArg
	}
	return a.settle(n, i, to), api.OK
}

// Holds tells whether it does for a set.
func (a *Arena) Holds(n Node, set int) (bool, api.Errno) {
	if !a.knows(n) {
		return false, api.ErrNode
	}
	if set < 0 || set >= 1<<a.Vars() {
		return false, api.ErrArg
	}
	for n >= lowest {
		d := a.decision(n)
		n = d.side(set>>d.name&1 == 1)
	}
	return n == always, api.OK
}

// Sat is the least set for which it does.
func (a *Arena) Sat(n Node) (set int, ok bool, e api.Errno) {
	if !a.knows(n) {
		return 0, false, api.ErrNode
	}
	if n == never {
		return 0, false, api.OK
	}
	for n >= lowest {
		d := a.decision(n)
		needed := d.without == never
		if needed {
			set |= 1 << d.name
		}
		n = d.side(needed)
	}
	return set, true, api.OK
}

// Count is for how many sets it does.
func (a *Arena) Count(n Node) (int, api.Errno) {
	if !a.knows(n) {
		return 0, api.ErrNode
	}
	return a.count(n, a.Vars()), api.OK
}

// Only is the set of names on which it hangs.
func (a *Arena) Only(n Node) (set int, e api.Errno) {
	if !a.knows(n) {
		return 0, api.ErrNode
	}
	return a.asked(n), api.OK
}

func (a *Arena) hasName(i int) bool {
	return i >= 0 && i < a.Vars()
}

func (a *Arena) knows(nodes ...Node) bool {
	end := lowest
	if a != nil {
		end += Node(len(a.decisions))
	}
	for _, n := range nodes {
		if n < never || n >= end {
			return false
		}
	}
	return true
}
