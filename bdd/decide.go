package bdd

import "emend/api"

// decision asks for a name, and goes on with one of two conditions, which ask for lesser names alone. The greatest name is asked first, because a set without it is less than any with it: the least set is found by going without wherever that can hold.
type decision struct {
	name          int
	without, with Node
}

func (d decision) side(in bool) Node {
	if in {
		return d.with
	}
	return d.without
}

// decide finds a decision again, or keeps it; one whose sides are alike is its side.
func (a *Arena) decide(d decision) Node {
	if d.without == d.with {
		return d.with
	}
	if n, ok := a.numbers[d]; ok {
		return n
	}
	n := lowest + Node(len(a.decisions))
	a.decisions = append(a.decisions, d)
	a.numbers[d] = n
	return n
}

func (a *Arena) decision(n Node) decision {
	return a.decisions[n-lowest]
}

// top is the greatest name that the conditions ask for, or -1.
func (a *Arena) top(nodes ...Node) int {
	name := -1
	for _, n := range nodes {
		if n >= lowest {
			name = max(name, a.decision(n).name)
		}
	}
	return name
}

// split is what is left of a condition without a name and with it, if it asks for none above that.
func (a *Arena) split(n Node, name int) (without, with Node) {
	if a.top(n) != name {
		return n, n
	}
	d := a.decision(n)
	return d.without, d.with
}

func (a *Arena) join(n, m Node, do func(one, other bool) bool) (Node, api.Errno) {
	if !a.knows(n, m) {
		return never, api.ErrNode
	}
	return a.combine(n, m, do), api.OK
}

// combine remembers nothing of what it has done: with MaxVars names it has 2^MaxVars ends at most.
func (a *Arena) combine(n, m Node, do func(one, other bool) bool) Node {
	name := a.top(n, m)
	if name < 0 {
		return settled(do(n == always, m == always))
	}
	nWithout, nWith := a.split(n, name)
	mWithout, mWith := a.split(m, name)
	return a.decide(decision{
		name:    name,
		without: a.combine(nWithout, mWithout, do),
		with:    a.combine(nWith, mWith, do),
	})
}

func settled(holds bool) Node {
	if holds {
		return always
	}
	return never
}

// choose goes through all three at once, so that no decision is kept that the choice does not have.
func (a *Arena) choose(c, n, m Node) Node {
	switch c {
	case never:
		return m
	case always:
		return n
	}
	name := a.top(c, n, m)
	cWithout, cWith := a.split(c, name)
	nWithout, nWith := a.split(n, name)
	mWithout, mWith := a.split(m, name)
	return a.decide(decision{
		name:    name,
		without: a.choose(cWithout, nWithout, mWithout),
		with:    a.choose(cWith, nWith, mWith),
	})
}

func (a *Arena) settle(n Node, name int, to bool) Node {
	if a.top(n) < name {
		return n
	}
	d := a.decision(n)
	if d.name == name {
		return d.side(to)
	}
	return a.decide(decision{
		name:    d.name,
		without: a.settle(d.without, name, to),
		with:    a.settle(d.with, name, to),
	})
}

// count is for how many sets of the names below that one it holds; a name that is not asked for makes them twice as many.
func (a *Arena) count(n Node, names int) int {
	if n < lowest {
		return int(n) << names
	}
	d := a.decision(n)
	return (a.count(d.without, d.name) + a.count(d.with, d.name)) << (names - 1 - d.name)
}

// asked is the set of names that are asked for: none is kept that does not matter.
func (a *Arena) asked(n Node) int {
	if n < lowest {
		return 0
	}
	d := a.decision(n)
	return 1<<d.name | a.asked(d.without) | a.asked(d.with)
}
