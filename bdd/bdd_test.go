package bdd_test

import (
	"math"
	"slices"
	"testing"

	"emend/api"
	"emend/bdd"
)

func TestA1New(t *testing.T) {
	for vars := 0; vars <= 8; vars++ {
		if a := arena(t, vars); a.Vars() != vars {
			t.Errorf("New(%d).Vars() = %d", vars, a.Vars())
		}
	}
	for _, vars := range []int{-1, 9, 64, math.MinInt, math.MaxInt} {
		if a, e := bdd.New(vars); a != nil || e != api.ErrArg {
			t.Errorf("New(%d): %v, %v", vars, a, e)
		}
	}
}

func TestA2Var(t *testing.T) {
	for vars := 0; vars <= 8; vars++ {
		a := arena(t, vars)
		for i := range vars {
			n := good(t)(a.Var(i))
			for set, h := range tableOf(t, a, n) {
				if h != (set>>i&1 == 1) {
					t.Errorf("%d names: Var(%d) for %d: %v", vars, i, set, h)
				}
			}
		}
		for _, i := range []int{-1, vars, 64, math.MinInt, math.MaxInt} {
			if n, e := a.Var(i); n != 0 || e != api.ErrArg {
				t.Errorf("%d names: Var(%d): %d, %v", vars, i, n, e)
			}
		}
	}
}

// Every pair of all conditions of three names, so that nothing is left to chance.
func TestA3TwoConditions(t *testing.T) {
	a := arena(t, 3)
	all := allConditions(t, a)
	ok := good(t)
	for p, n := range all {
		if got := ok(a.Not(n)); got != all[p^255] {
			t.Fatalf("Not of %08b: %d", p, got)
		}
		for q, m := range all {
			and, or, xor := ok(a.And(n, m)), ok(a.Or(n, m)), ok(a.Xor(n, m))
			if and != all[p&q] || or != all[p|q] || xor != all[p^q] {
				t.Fatalf("%08b, %08b: and %d, or %d, xor %d", p, q, and, or, xor)
			}
		}
	}
}

func TestA3Ite(t *testing.T) {
	a := arena(t, 2)
	all := allConditions(t, a)
	for c, cn := range all {
		for p, n := range all {
			for q, m := range all {
				if got := good(t)(a.Ite(cn, n, m)); got != all[c&p|(15^c)&q] {
					t.Fatalf("Ite of %04b, %04b, %04b: %d", c, p, q, got)
				}
			}
		}
	}
}

func TestA3Restrict(t *testing.T) {
	a := arena(t, 3)
	all := allConditions(t, a)
	for p, n := range all {
		for i := range 3 {
			for _, to := range []bool{false, true} {
				want := 0
				for set := range 8 {
					told := set &^ (1 << i)
					if to {
						told = set | 1<<i
					}
					want |= p >> told & 1 << set
				}
				if got := good(t)(a.Restrict(n, i, to)); got != all[want] {
					t.Fatalf("Restrict of %08b, %d, %v: %d", p, i, to, got)
				}
			}
		}
	}
}

func TestA3EightNames(t *testing.T) {
	a := arena(t, 8)
	ok := good(t)
	tables := knownTables(8)
	var nodes []bdd.Node
	for _, w := range tables {
		nodes = append(nodes, conditionOf(t, a, w))
	}
	for i, n := range nodes {
		j, k := (i*5+3)%len(nodes), (i*7+1)%len(nodes)
		not := tableOf(t, a, ok(a.Not(n)))
		and := tableOf(t, a, ok(a.And(n, nodes[j])))
		or := tableOf(t, a, ok(a.Or(n, nodes[j])))
		xor := tableOf(t, a, ok(a.Xor(n, nodes[j])))
		ite := tableOf(t, a, ok(a.Ite(n, nodes[j], nodes[k])))
		with := tableOf(t, a, ok(a.Restrict(n, i%8, true)))
		without := tableOf(t, a, ok(a.Restrict(n, i%8, false)))
		for set := range 256 {
			p, q, r := tables[i][set], tables[j][set], tables[k][set]
			if not[set] == p || and[set] != (p && q) || or[set] != (p || q) || xor[set] != (p != q) {
				t.Fatalf("conditions %d, %d for %d", i, j, set)
			}
			if ite[set] != (p && q || !p && r) {
				t.Fatalf("Ite of %d, %d, %d for %d", i, j, k, set)
			}
			bit := 1 << (i % 8)
			if with[set] != tables[i][set|bit] || without[set] != tables[i][set&^bit] {
				t.Fatalf("Restrict of %d for %d", i, set)
			}
		}
	}
}

func TestA4EdgesOfHolds(t *testing.T) {
	for vars := 0; vars <= 8; vars++ {
		a := arena(t, vars)
		for n := range bdd.Node(2) {
			for _, set := range []int{0, 1<<vars - 1} {
				if h, e := a.Holds(n, set); e != api.OK || h != (n == 1) {
					t.Errorf("%d names: Holds(%d, %d): %v, %v", vars, n, set, h, e)
				}
			}
			for _, set := range []int{-1, 1 << vars, math.MinInt, math.MaxInt} {
				if h, e := a.Holds(n, set); h || e != api.ErrArg {
					t.Errorf("%d names: Holds(%d, %d): %v, %v", vars, n, set, h, e)
				}
			}
		}
	}
}

// toldOf is what Sat, Count and Only must tell of a table.
func toldOf(w table) (least int, some bool, many, only int) {
	for set, h := range w {
		if h && !some {
			least, some = set, true
		}
		if h {
			many++
		}
		for i := 0; 1<<i < len(w); i++ {
			if h != w[set^1<<i] {
				only |= 1 << i
			}
		}
	}
	return least, some, many, only
}

func checkTold(t *testing.T, a *bdd.Arena, n bdd.Node, w table) {
	t.Helper()
	least, some, many, only := toldOf(w)
	if got := tableOf(t, a, n); !slices.Equal(got, w) {
		t.Fatalf("Holds of %v: %v", w, got)
	}
	if set, ok, e := a.Sat(n); set != least || ok != some || e != api.OK {
		t.Fatalf("Sat of %v: %d, %v, %v", w, set, ok, e)
	}
	if c, e := a.Count(n); c != many || e != api.OK {
		t.Fatalf("Count of %v: %d, %v", w, c, e)
	}
	if o, e := a.Only(n); o != only || e != api.OK {
		t.Fatalf("Only of %v: %d, %v", w, o, e)
	}
}

func TestA4WhatIsTold(t *testing.T) {
	for vars := 0; vars <= 3; vars++ {
		a := arena(t, vars)
		for bits, n := range allConditions(t, a) {
			w := make(table, 1<<vars)
			for set := range w {
				w[set] = bits>>set&1 == 1
			}
			checkTold(t, a, n, w)
		}
	}
	for vars := 4; vars <= 8; vars++ {
		a := arena(t, vars)
		for _, w := range knownTables(vars) {
			checkTold(t, a, conditionOf(t, a, w), w)
		}
	}
}

// A number is told by the sets alone: none is below 0, and no two conditions share one.
func TestWordsOneNumberEach(t *testing.T) {
	a := arena(t, 3)
	of := map[bdd.Node]int{}
	for bits, n := range allConditions(t, a) {
		if n < 0 {
			t.Errorf("%08b has the number %d", bits, n)
		}
		if other, twice := of[n]; twice {
			t.Errorf("%08b and %08b have the number %d", bits, other, n)
		}
		of[n] = bits
		if again := word(tableOf(t, a, n)); again != bits {
			t.Errorf("%08b holds for %08b", bits, again)
		}
	}
	if of[0] != 0 || of[1] != 255 {
		t.Errorf("0 is %08b, 1 is %08b", of[0], of[1])
	}
}

func TestA5SameByThought(t *testing.T) {
	a := arena(t, 8)
	ok := good(t)
	s := source(5)
	not := func(n bdd.Node) bdd.Node { return ok(a.Not(n)) }
	and := func(n, m bdd.Node) bdd.Node { return ok(a.And(n, m)) }
	or := func(n, m bdd.Node) bdd.Node { return ok(a.Or(n, m)) }
	for range 10 {
		x, y, z := conditionOf(t, a, s.table(256)), conditionOf(t, a, s.table(256)), conditionOf(t, a, s.table(256))
		i := s.next(8)
		v := ok(a.Var(i))
		with, without := ok(a.Restrict(x, i, true)), ok(a.Restrict(x, i, false))
		for law, sides := range map[string][2]bdd.Node{
			"contrary of the contrary": {not(not(x)), x},
			"de Morgan, and":           {not(and(x, y)), or(not(x), not(y))},
			"de Morgan, or":            {not(or(x, y)), and(not(x), not(y))},
			"choice of two sides":      {ok(a.Ite(x, y, z)), or(and(x, y), and(not(x), z))},
			"choice by a name":         {ok(a.Ite(v, with, without)), x},
			"just one":                 {ok(a.Xor(x, y)), or(and(x, not(y)), and(not(x), y))},
			"the other way round":      {and(x, y), and(y, x)},
			"one inside the other":     {or(x, and(x, y)), x},
			"spread out":               {and(x, or(y, z)), or(and(x, y), and(x, z))},
			"never":                    {and(x, not(x)), 0},
			"always":                   {or(x, not(x)), 1},
		} {
			if sides[0] != sides[1] {
				t.Errorf("%s: %d and %d", law, sides[0], sides[1])
			}
		}
	}
}

func TestExamples(t *testing.T) {
	a := arena(t, 3)
	ok := good(t)
	x, y := ok(a.Var(0)), ok(a.Var(1))
	no, both := ok(a.Not(x)), ok(a.And(x, y))
	for i, sides := range [][2]bdd.Node{
		{ok(a.And(x, no)), 0},
		{ok(a.Or(x, no)), 1},
		{ok(a.And(y, x)), both},
		{ok(a.Restrict(both, 0, true)), y},
		{ok(a.Restrict(both, 0, false)), 0},
	} {
		if sides[0] != sides[1] {
			t.Errorf("%d: %d and %d", i, sides[0], sides[1])
		}
	}
	set, some, _ := a.Sat(both)
	many, _ := a.Count(both)
	only, _ := a.Only(both)
	if set != 3 || !some || many != 2 || only != 3 {
		t.Errorf("Sat %d, %v; Count %d; Only %d", set, some, many, only)
	}
}
