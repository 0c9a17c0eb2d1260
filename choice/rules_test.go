package choice_test

import (
	"math"
	"math/rand/v2"
	"slices"
	"testing"

	"emend/api"
	"emend/bdd"
	"emend/choice"
)

// The number that this layer tells, and how many names there may be, are the document's.
func TestNumbers(t *testing.T) {
	if api.OK != 0 || api.ErrArg != 1 || api.MaxVars != 8 {
		t.Error("numbers")
	}
}

const many = 1 << 16

// listOf are tokens at places that are told.
func listOf(n int, place func(i int) int) []api.Tok {
	out := make([]api.Tok, 0, n)
	for i := range n {
		out = append(out, api.Tok{Kind: api.Ident, Text: "x", From: place(i)})
	}
	return out
}

// R1: very long lists, alike and unlike, in no more steps than about as many as there are tokens.
func TestR1Long(t *testing.T) {
	t.Parallel()
	r := rand.New(rand.NewPCG(13, 2))
	straight := listOf(many, func(i int) int { return i })
	for _, x := range []struct {
		name  string
		other []api.Tok
		parts int
	}{
		{"the same", straight, many},
		{"unlike", listOf(many, func(i int) int { return i + many }), 2 * many},
		{"turned about", listOf(many, func(i int) int { return many - 1 - i }), 2*many - 1},
		{"nothing", nil, many},
		{"every other one", listOf(many/2, func(i int) int { return 2*i + 1 }), many},
		{"one between", listOf(2*many-1, func(i int) int { return i%2*many + i/2 }), 2*many - 1},
		{"halves", listOf(many, func(i int) int { return i ^ many/2 }), many + many/2},
	} {
		if _, m := merged(t, straight, x.other); len(m) != x.parts {
			t.Errorf("%s: %d parts, not %d", x.name, len(m), x.parts)
		}
		if _, m := merged(t, x.other, straight); len(m) != x.parts {
			t.Errorf("%s: %d parts, not %d", x.name, len(m), x.parts)
		}
	}
	for _, few := range []int{1, 2, 30, 999} {
		merged(t, listOf(many, func(int) int { return r.IntN(few) }), listOf(many/2, func(int) int { return r.IntN(few) }))
	}
}

// R1: long lists in which the same tokens come again and again, with a few put in: what is not put in stands once, or nearly.
func TestR1LongAgain(t *testing.T) {
	t.Parallel()
	again := listOf(many, func(i int) int { return i % 7 })
	for _, at := range [][]int{{1}, {9, many / 2, many - 9}, {4000, 8000, 8001, 8002, 20000}} {
		other := slices.Clone(again)
		for i, n := range at {
			other = slices.Insert(other, n, api.Tok{Kind: api.Ident, Text: "new", From: i})
		}
		if _, m := merged(t, again, other); len(m) != len(other) {
			t.Errorf("%v: %d parts, not %d", at, len(m), len(other))
		}
	}
}

// R1: long lists of which two begin alike, end alike, or are alike between tokens that come elsewhere too. The document leaves it open how much of that stands once; here it is all that two have in common.
func TestR1LongParts(t *testing.T) {
	t.Parallel()
	unique := listOf(1200, func(i int) int { return i })
	turned := slices.Clone(unique)
	slices.Reverse(turned)
	apart := listOf(600, func(i int) int { return -1 - i })
	again, one, other := toks("r"), toks("x"), toks("y")
	for _, x := range []struct {
		name       string
		one, other []api.Tok
		shared     int
	}{
		{"end", slices.Concat(turned, unique), slices.Concat(apart, unique), 1200},
		{"beginning", slices.Concat(unique, turned), slices.Concat(unique, apart), 1200},
		{"both", slices.Concat(unique, turned, again, unique), slices.Concat(unique, apart, again, unique), 2401},
		{"between", slices.Concat(again, again, unique[:600], again, unique[600:], again, one), slices.Concat(other, unique[:600], again, unique[600:], again, other), 1202},
	} {
		for _, lists := range [][][]api.Tok{{x.one, x.other, nil, nil}, {nil, nil, x.other, x.one}, {nil, x.one, nil, x.other}} {
			if _, m := merged(t, lists...); len(m) != len(x.one)+len(x.other)-x.shared {
				t.Errorf("%s: %d parts of %d and %d", x.name, len(m), len(x.one), len(x.other))
			}
		}
	}
}

// R1: as many lists as there may be, with as many tokens as a file can come to.
func TestR1Many(t *testing.T) {
	t.Parallel()
	r := rand.New(rand.NewPCG(13, 3))
	for _, place := range []func(set, i int) int{
		func(_, i int) int { return i },
		func(set, i int) int { return i*2 + set>>(i%8)&1 },
		func(set, i int) int {
			if r.IntN(100) == 0 {
				return -set
			}
			return i
		},
	} {
		lists := make([][]api.Tok, 256)
		for set := range lists {
			lists[set] = listOf(api.MaxToks, func(i int) int { return place(set, i) })
		}
		if _, m := merged(t, lists...); len(m) > 5*api.MaxToks {
			t.Errorf("%d parts", len(m))
		}
	}
	lists := make([][]api.Tok, 256)
	for set := range lists {
		lists[set] = listOf(500, func(i int) int { return set*500 + i })
	}
	if _, m := merged(t, lists...); len(m) != 256*500 {
		t.Errorf("%d parts", len(m))
	}
}

// R1: many tokens of one place, each with a condition of its own.
func TestR1ManyOfOnePlace(t *testing.T) {
	t.Parallel()
	a := arena(t, 8)
	ok := good(t)
	var l []choice.CTok
	n := bdd.Node(0)
	for i := range many {
		v := ok(a.Var(i % 8))
		if i%3 == 0 {
			n = ok(a.Xor(n, v))
		} else {
			n = ok(a.Or(ok(a.Not(n)), v))
		}
		l = append(l, choice.CTok{T: tok('x'), Cond: n})
	}
	x := tok('x')
	if got := choice.Where(a, l, x.File, x.From, x.To); got != 1 {
		t.Errorf("%d", got)
	}
	v := ok(a.Var(7))
	kept := choice.Keep(a, l, v)
	for _, set := range []int{0, 127, 128, 255} {
		want := len(choice.Select(a, l, set))
		if set < 128 {
			want = 0
		}
		if got := len(choice.Select(a, kept, set)); got != want {
			t.Errorf("%d: %d tokens, not %d", set, got, want)
		}
	}
}

// R1: nothing is promised of what is no condition of the arena, nor of what is no set of it; but that a call ends.
func TestR1NothingPromised(t *testing.T) {
	var none *bdd.Arena
	for _, a := range []*bdd.Arena{none, {}, arena(t, 0), arena(t, 2)} {
		var l []choice.CTok
		for _, n := range []bdd.Node{-1, 2, 99, math.MinInt, math.MaxInt, 0, 1} {
			l = append(l, choice.CTok{T: tok('x'), Cond: n})
		}
		for _, n := range []int{-1, 4, 1 << 20, math.MinInt, math.MaxInt, 0, 1} {
			choice.Select(a, l, n)
			choice.Keep(a, l, bdd.Node(n))
			choice.Where(a, l, n, n, n)
		}
		x := tok('x')
		choice.Where(a, l, x.File, x.From, x.To)
		for vars := range 3 {
			choice.Merge(a, slices.Repeat(listsOf("ab"), 1<<vars))
		}
	}
	// An arena that is none has no names, and so one set.
	if m, e := choice.Merge(none, listsOf("ab")); e != api.OK || !slices.Equal(choice.Select(none, m, 0), toks("ab")) {
		t.Errorf("%v, %d", m, e)
	}
}

// R3: with an error nothing else is told, and nothing that a later call tells is another one: also the numbers of conditions are those that they would have had.
func TestR3ErrorsLeaveNothing(t *testing.T) {
	later := func(a *bdd.Arena) []choice.CTok {
		m, e := choice.Merge(a, listsOf("abc", "axbyc", "aybc", "bxya"))
		if e != api.OK {
			t.Fatal(e)
		}
		return m
	}
	want := later(arena(t, 2))
	for _, words := range [][]string{nil, {"ab"}, {"ab", "ba"}, {"ab", "ba", "aa"}, {"ab", "ba", "aa", "b", "a"}, {"a", "b", "c", "d", "e", "f", "g", "h"}} {
		a := arena(t, 2)
		for range 3 {
			if m, e := choice.Merge(a, listsOf(words...)); m != nil || e != api.ErrArg {
				t.Fatalf("%q: %v, %d", words, m, e)
			}
		}
		if got := later(a); !slices.Equal(got, want) {
			t.Errorf("behind %q: %v, not %v", words, got, want)
		}
	}
}

// R4: a nil list and an empty one are the same, within other data too.
func TestR4NoLists(t *testing.T) {
	for vars := range 4 {
		a := arena(t, vars)
		for _, lists := range [][][]api.Tok{nil, {}} {
			if m, e := choice.Merge(a, lists); len(m) > 0 || e != api.ErrArg {
				t.Errorf("%d names: %v, %d", vars, m, e)
			}
		}
		for _, l := range [][]api.Tok{nil, {}} {
			if m, e := choice.Merge(a, slices.Repeat([][]api.Tok{l}, 1<<vars)); len(m) > 0 || e != api.OK {
				t.Errorf("%d names: %v, %d", vars, m, e)
			}
		}
	}
	a, m := merged(t, nil, toks("a"), []api.Tok{}, toks("ab"))
	if got := shown(t, a, m); got != "a13 b3" {
		t.Errorf("%q", got)
	}
	for _, l := range [][]choice.CTok{nil, {}} {
		if len(choice.Select(a, l, 1)) > 0 || len(choice.Keep(a, l, 1)) > 0 || choice.Where(a, l, 0, 0, 0) != 0 {
			t.Error("of no tokens")
		}
	}
}

// R5: what is handed in stays as it was, also what stands behind its end; what is answered is its receiver's own.
func TestR5NothingIsChanged(t *testing.T) {
	words := []string{"abcabc", "axcac", "abxxc", "aaccabc"}
	lists := listsOf(words...)
	short := make([][]api.Tok, len(lists))
	for i := range lists {
		short[i] = lists[i][:4]
	}
	a, want := merged(t, short...)
	l := append(slices.Clone(want), choice.CTok{T: tok('z'), Cond: 1})
	for range 3 {
		m, e := choice.Merge(a, short)
		if e != api.OK || !slices.Equal(m, want) {
			t.Fatalf("%v, %d", m, e)
		}
		clear(m[:cap(m)])
		for n := range bdd.Node(4) {
			kept := choice.Keep(a, l[:len(want)], n)
			clear(kept[:cap(kept)])
			choice.Where(a, l[:len(want)], 1, 'a', 'b')
		}
		for set := range 4 {
			got := choice.Select(a, l[:len(want)], set)
			clear(got[:cap(got)])
		}
		if !slices.Equal(l[:len(want)], want) || l[len(want)].T != tok('z') {
			t.Fatalf("%v", l)
		}
		for i, w := range words {
			if !slices.Equal(lists[i], toks(w)) || !slices.Equal(short[i], toks(w)[:4]) {
				t.Fatalf("%q: %q", w, wordOf(lists[i]))
			}
		}
	}
}

// R6, R8: a call hangs on its arguments and on the arena alone, and two calls with the same ones choose alike.
func TestR6TwoCallsChooseAlike(t *testing.T) {
	r := rand.New(rand.NewPCG(13, 4))
	for range 30 {
		var words []string
		for range 8 {
			words = append(words, grown(r, "", "abcdef", 20))
		}
		a, want := merged(t, listsOf(words...)...)
		for range 3 {
			again, e := choice.Merge(a, listsOf(words...))
			if e != api.OK || !slices.Equal(again, want) {
				t.Fatalf("%q: %d, %v, not %v", words, e, again, want)
			}
			elsewhere, _ := choice.Merge(arena(t, 3), listsOf(words...))
			if !slices.Equal(elsewhere, want) {
				t.Fatalf("%q: %v, not %v", words, elsewhere, want)
			}
			x, y := choice.Keep(a, want, want[0].Cond), choice.Keep(a, again, want[0].Cond)
			if !slices.Equal(x, y) {
				t.Fatalf("%q: %v, not %v", words, x, y)
			}
			choice.Merge(a, listsOf("b", "a", "ab", "ba", "", "aa", "bb", "abab"))
		}
	}
	// Lists that are too long for a table choose alike too.
	one := listOf(3000, func(int) int { return r.IntN(50) })
	two := listOf(3000, func(int) int { return r.IntN(50) })
	a, want := merged(t, one, two)
	for range 5 {
		if got, e := choice.Merge(a, [][]api.Tok{one, two}); e != api.OK || !slices.Equal(got, want) {
			t.Fatal("another choice")
		}
	}
}
