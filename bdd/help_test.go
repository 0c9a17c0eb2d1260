package bdd_test

import (
	"testing"

	"emend/api"
	"emend/bdd"
)

func arena(t *testing.T, vars int) *bdd.Arena {
	t.Helper()
	a, e := bdd.New(vars)
	if e != api.OK || a == nil {
		t.Fatalf("New(%d): %v, %v", vars, a, e)
	}
	return a
}

// good is a test's way to take a Node that must come without an error.
func good(t *testing.T) func(bdd.Node, api.Errno) bdd.Node {
	return func(n bdd.Node, e api.Errno) bdd.Node {
		t.Helper()
		if e != api.OK {
			t.Fatalf("an error where none applies: %v", e)
		}
		return n
	}
}

// table tells for each set whether something holds.
type table []bool

func tableOf(t *testing.T, a *bdd.Arena, n bdd.Node) table {
	t.Helper()
	out := make(table, 1<<a.Vars())
	for set := range out {
		h, e := a.Holds(n, set)
		if e != api.OK {
			t.Fatalf("Holds(%d, %d): %v", n, set, e)
		}
		out[set] = h
	}
	return out
}

// word is the table of a few names as the bits of a number.
func word(w table) int {
	out := 0
	for set, h := range w {
		if h {
			out |= 1 << set
		}
	}
	return out
}

// conditionOf is made of single sets, by Var, Not, And and Or alone.
func conditionOf(t *testing.T, a *bdd.Arena, w table) bdd.Node {
	t.Helper()
	ok := good(t)
	out := bdd.Node(0)
	for set, h := range w {
		if !h {
			continue
		}
		one := bdd.Node(1)
		for i := range a.Vars() {
			v := ok(a.Var(i))
			if set>>i&1 == 0 {
				v = ok(a.Not(v))
			}
			one = ok(a.And(one, v))
		}
		out = ok(a.Or(out, one))
	}
	return out
}

// allConditions are those of a few names, each at the number that word tells of its table.
func allConditions(t *testing.T, a *bdd.Arena) []bdd.Node {
	t.Helper()
	sets := 1 << a.Vars()
	out := make([]bdd.Node, 1<<sets)
	for bits := range out {
		w := make(table, sets)
		for set := range w {
			w[set] = bits>>set&1 == 1
		}
		out[bits] = conditionOf(t, a, w)
	}
	return out
}

// source tells numbers that look like chance and are always the same.
type source uint64

func (s *source) next(below int) int {
	*s = *s*6364136223846793005 + 1442695040888963407
	return int(uint64(*s) >> 33 % uint64(below))
}

func (s *source) table(sets int) table {
	out := make(table, sets)
	dense := 1 + s.next(7)
	for set := range out {
		out[set] = s.next(8) < dense
	}
	return out
}

// knownTables are the edges of an arena and some tables between them.
func knownTables(vars int) []table {
	sets := 1 << vars
	never, always := make(table, sets), make(table, sets)
	least, greatest := make(table, sets), make(table, sets)
	for set := range always {
		always[set] = true
	}
	least[0], greatest[sets-1] = true, true
	out := []table{never, always, least, greatest}
	s := source(vars)
	for range 12 {
		out = append(out, s.table(sets))
	}
	return out
}
