package bdd_test

import (
	"math"
	"testing"

	"emend/api"
	"emend/bdd"
)

// calls are those that take Nodes, each with one of them wrong in every place in turn; what they tell is a Node's number or a set, or 1 for true.
func calls(a *bdd.Arena, fine, wrong bdd.Node) map[string]func() (int, api.Errno) {
	node := func(n bdd.Node, e api.Errno) (int, api.Errno) { return int(n), e }
	number := func(told bool, set int, e api.Errno) (int, api.Errno) {
		if told {
			set |= 1
		}
		return set, e
	}
	return map[string]func() (int, api.Errno){
		"Not":              func() (int, api.Errno) { return node(a.Not(wrong)) },
		"And, left":        func() (int, api.Errno) { return node(a.And(wrong, fine)) },
		"And, right":       func() (int, api.Errno) { return node(a.And(fine, wrong)) },
		"And, never left":  func() (int, api.Errno) { return node(a.And(0, wrong)) },
		"Or, left":         func() (int, api.Errno) { return node(a.Or(wrong, fine)) },
		"Or, right":        func() (int, api.Errno) { return node(a.Or(fine, wrong)) },
		"Or, always left":  func() (int, api.Errno) { return node(a.Or(1, wrong)) },
		"Xor, left":        func() (int, api.Errno) { return node(a.Xor(wrong, fine)) },
		"Xor, right":       func() (int, api.Errno) { return node(a.Xor(fine, wrong)) },
		"Ite, what":        func() (int, api.Errno) { return node(a.Ite(wrong, fine, fine)) },
		"Ite, then":        func() (int, api.Errno) { return node(a.Ite(fine, wrong, fine)) },
		"Ite, else":        func() (int, api.Errno) { return node(a.Ite(fine, fine, wrong)) },
		"Ite, not taken":   func() (int, api.Errno) { return node(a.Ite(1, fine, wrong)) },
		"Restrict":         func() (int, api.Errno) { return node(a.Restrict(wrong, 0, true)) },
		"Restrict, name 8": func() (int, api.Errno) { return node(a.Restrict(wrong, 8, false)) },
		"Holds":            func() (int, api.Errno) { h, e := a.Holds(wrong, 0); return number(h, 0, e) },
		"Holds, set -1":    func() (int, api.Errno) { h, e := a.Holds(wrong, -1); return number(h, 0, e) },
		"Sat":              func() (int, api.Errno) { set, ok, e := a.Sat(wrong); return number(ok, set, e) },
		"Count":            func() (int, api.Errno) { c, e := a.Count(wrong); return number(false, c, e) },
		"Only":             func() (int, api.Errno) { set, e := a.Only(wrong); return number(false, set, e) },
	}
}

func TestWrongNodes(t *testing.T) {
	for vars := 0; vars <= 8; vars++ {
		a := arena(t, vars)
		for _, wrong := range []bdd.Node{-1, -2, math.MinInt} {
			for name, call := range calls(a, 1, wrong) {
				if told, e := call(); told != 0 || e != api.ErrNode {
					t.Errorf("%d names: %s of %d: %d, %v", vars, name, wrong, told, e)
				}
			}
		}
	}
}

// Where the Node is right, a wrong name or set is told.
func TestWrongNamesAndSets(t *testing.T) {
	a := arena(t, 2)
	x := good(t)(a.Var(1))
	for _, n := range []bdd.Node{0, 1, x} {
		for _, i := range []int{-1, 2, 64, math.MinInt, math.MaxInt} {
			if r, e := a.Restrict(n, i, true); r != 0 || e != api.ErrArg {
				t.Errorf("Restrict(%d, %d): %d, %v", n, i, r, e)
			}
		}
		for _, set := range []int{-1, 4, math.MinInt, math.MaxInt} {
			if h, e := a.Holds(n, set); h || e != api.ErrArg {
				t.Errorf("Holds(%d, %d): %v, %v", n, set, h, e)
			}
		}
	}
}

// R1: numbers that no call told have no promised answer, but nothing may panic; nor on the arena that is none.
func TestR1NoPanic(t *testing.T) {
	none, _ := bdd.New(9)
	for _, a := range []*bdd.Arena{none, new(bdd.Arena), arena(t, 0), arena(t, 8)} {
		for _, n := range []bdd.Node{-1, 0, 1, 2, 3, 300, math.MaxInt} {
			for _, call := range calls(a, 1, n) {
				call()
			}
		}
	}
	for _, a := range []*bdd.Arena{none, new(bdd.Arena)} {
		if _, e := a.Var(0); a.Vars() != 0 || e != api.ErrArg {
			t.Errorf("%d names, %v", a.Vars(), e)
		}
	}
}

// R3, R6, R8: what a call tells hangs on what was done with its own arena, and a call that tells an error did nothing.
func TestR3ErrorsChangeNothing(t *testing.T) {
	plain, disturbed := arena(t, 8), arena(t, 8)
	ok := good(t)
	s := source(11)
	n, m := bdd.Node(0), bdd.Node(0)
	for range 200 {
		i, kind := s.next(8), s.next(3)
		for _, wrong := range []bdd.Node{-1, math.MinInt} {
			for _, call := range calls(disturbed, m, wrong) {
				call()
			}
		}
		disturbed.Var(8)
		disturbed.Restrict(m, 8, true)
		n, m = step(ok, plain, n, i, kind), step(ok, disturbed, m, i, kind)
		if n != m {
			t.Fatalf("%d and %d", n, m)
		}
	}
}

func step(ok func(bdd.Node, api.Errno) bdd.Node, a *bdd.Arena, n bdd.Node, name, kind int) bdd.Node {
	v := ok(a.Var(name))
	switch kind {
	case 0:
		return ok(a.Or(n, v))
	case 1:
		return ok(a.Xor(n, v))
	}
	return ok(a.Ite(v, ok(a.Not(n)), n))
}
