package presence_test

import (
	"math/rand/v2"
	"slices"
	"testing"

	"emend/bdd"
	"emend/presence"
)

func checkWhere(t *testing.T, a *bdd.Arena, n bdd.Node, want []int) {
	t.Helper()
	if got := presence.Where(a, n); !slices.Equal(got, want) {
		t.Errorf("%d names: %v, not %v", a.Vars(), got, want)
	}
}

func TestL1Example(t *testing.T) {
	a := arena(t, 3)
	x, _ := a.Var(0)
	y, _ := a.Var(1)
	z, _ := a.Var(2)
	checkWhere(t, a, 0, nil)
	checkWhere(t, a, 1, []int{0, 1, 2, 3, 4, 5, 6, 7})
	checkWhere(t, a, x, []int{1, 3, 5, 7})
	checkWhere(t, a, y, []int{2, 3, 6, 7})
	checkWhere(t, a, z, []int{4, 5, 6, 7})
	not, _ := a.Not(y)
	checkWhere(t, a, not, []int{0, 1, 4, 5})
	and, _ := a.And(x, z)
	checkWhere(t, a, and, []int{5, 7})
	or, _ := a.Or(x, z)
	checkWhere(t, a, or, []int{1, 3, 4, 5, 6, 7})
	xor, _ := a.Xor(x, y)
	checkWhere(t, a, xor, []int{1, 2, 5, 6})
}

// Never, always, and each name and its contrary, of as many names as there may be.
func TestL1AllSizes(t *testing.T) {
	for vars := range 9 {
		a := arena(t, vars)
		checkWhere(t, a, 0, nil)
		var every []int
		for set := range 1 << vars {
			every = append(every, set)
		}
		checkWhere(t, a, 1, every)
		for i := range vars {
			n, _ := a.Var(i)
			not, _ := a.Not(n)
			checkWhere(t, a, n, slices.DeleteFunc(slices.Clone(every), func(set int) bool { return set>>i&1 == 0 }))
			checkWhere(t, a, not, slices.DeleteFunc(slices.Clone(every), func(set int) bool { return set>>i&1 == 1 }))
		}
	}
}

func checkSets(t *testing.T, a *bdd.Arena, h has) {
	t.Helper()
	var want []int
	for set, in := range h {
		if in {
			want = append(want, set)
		}
	}
	checkWhere(t, a, node(t, a, h), want)
}

// All conditions of a few names, and some of more.
func TestL1AllConditions(t *testing.T) {
	for vars := range 4 {
		a := arena(t, vars)
		every(vars, func(h has) { checkSets(t, a, h) })
	}
	r := rand.New(rand.NewPCG(12, 1))
	for vars := 4; vars <= 8; vars++ {
		a := arena(t, vars)
		for _, part := range []int{2, 3, 50} {
			h := make(has, 1<<vars)
			for set := range h {
				h[set] = r.IntN(part) == 0
			}
			checkSets(t, a, h)
		}
	}
}
