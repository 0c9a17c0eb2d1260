package choice_test

import (
	"slices"
	"testing"

	"emend/bdd"
	"emend/choice"
)

// M1: of no tokens, and of tokens with the conditions 0 and 1, a name's, its contrary, and both of two.
func TestM1Select(t *testing.T) {
	a := arena(t, 2)
	ok := good(t)
	x, y := ok(a.Var(0)), ok(a.Var(1))
	l := []choice.CTok{
		{tok('z'), 1}, {tok('n'), 0}, {tok('x'), x}, {tok('X'), ok(a.Not(x))}, {tok('y'), y}, {tok('b'), ok(a.And(x, y))}, {tok('z'), 1}, {tok('d'), ok(a.Xor(x, y))}, {tok('x'), x},
	}
	for set, want := range []string{"zXz", "zxzdx", "zXyzd", "zxybzx"} {
		if got := choice.Select(a, l, set); !slices.Equal(got, toks(want)) {
			t.Errorf("%d: %q, not %q", set, wordOf(got), want)
		}
		if got := choice.Select(a, nil, set); len(got) > 0 {
			t.Errorf("%d: %q of no tokens", set, wordOf(got))
		}
		if got := choice.Select(a, l[1:2], set); got != nil {
			t.Errorf("%d: %q of what is never there", set, wordOf(got))
		}
	}
}

// M1: tokens come in the order in which they stand, also those that are the same, whatever they are.
func TestM1Order(t *testing.T) {
	a := arena(t, 0)
	for _, word := range wordsUpTo(5, "aba") {
		var l []choice.CTok
		for _, x := range toks(word) {
			l = append(l, choice.CTok{T: x, Cond: 1})
		}
		if got := choice.Select(a, l, 0); !slices.Equal(got, toks(word)) {
			t.Errorf("%q, not %q", wordOf(got), word)
		}
	}
}

// M1: each condition of three names, for each set, and each name of eight.
func TestM1EachSet(t *testing.T) {
	a := arena(t, 3)
	var l []choice.CTok
	var sets []has
	every(3, func(h has) {
		l = append(l, choice.CTok{T: tok(rune(len(l) + 1)), Cond: node(t, a, h)})
		sets = append(sets, h)
	})
	for set := range 8 {
		want := ""
		for i, h := range sets {
			if h[set] {
				want += string(rune(i + 1))
			}
		}
		if got := choice.Select(a, l, set); !slices.Equal(got, toks(want)) {
			t.Errorf("%d: %q, not %q", set, wordOf(got), want)
		}
	}
	a, l = arena(t, 8), nil
	for i := range 8 {
		l = append(l, choice.CTok{T: tok(rune('0' + i)), Cond: good(t)(a.Var(i))})
	}
	for set := range 256 {
		want := ""
		for i := range 8 {
			if set>>i&1 == 1 {
				want += string(rune('0' + i))
			}
		}
		if got := choice.Select(a, l, set); !slices.Equal(got, toks(want)) {
			t.Errorf("%d: %q, not %q", set, wordOf(got), want)
		}
	}
}

// M3: all conditions of two names, kept where each other one holds.
func TestM3Keep(t *testing.T) {
	a := arena(t, 2)
	var l []choice.CTok
	every(2, func(h has) {
		l = append(l, choice.CTok{T: tok(rune('a' + len(l))), Cond: node(t, a, h)})
	})
	every(2, func(h has) {
		got := choice.Keep(a, l, node(t, a, h))
		if want := toldKeep(t, a, l, h); !slices.Equal(got, want) {
			t.Errorf("%v: %q, not %q", h, shown(t, a, got), shown(t, a, want))
		}
		if got := choice.Keep(a, nil, node(t, a, h)); len(got) > 0 {
			t.Errorf("%v of no tokens", got)
		}
	})
}

func TestM3KeepByHand(t *testing.T) {
	a, m := merged(t, listsOf("abcd", "axcd", "abd", "axdd")...)
	ok := good(t)
	x, y := ok(a.Var(0)), ok(a.Var(1))
	whole := shown(t, a, m)
	for _, k := range []struct {
		n    bdd.Node
		want [4]string
		most int
	}{
		{0, [4]string{}, 0},
		{1, [4]string{"abcd", "axcd", "abd", "axdd"}, 99},
		{x, [4]string{"", "axcd", "", "axdd"}, 5},
		{ok(a.Not(x)), [4]string{"abcd", "", "abd", ""}, 4},
		{y, [4]string{"", "", "abd", "axdd"}, 99},
		{ok(a.And(x, ok(a.Not(y)))), [4]string{"", "axcd", "", ""}, 4},
		{ok(a.Xor(x, y)), [4]string{"", "axcd", "abd", ""}, 99},
	} {
		kept := choice.Keep(a, m, k.n)
		if len(kept) > len(m) || len(kept) > k.most {
			t.Errorf("%d: %q of %q", k.n, shown(t, a, kept), whole)
		}
		for set, want := range k.want {
			if got := choice.Select(a, kept, set); !slices.Equal(got, toks(want)) {
				t.Errorf("%d, %d: %q, not %q", k.n, set, wordOf(got), want)
			}
		}
	}
}

// M3, of names one after the other: in either order it comes to the same.
func TestM3KeepTwice(t *testing.T) {
	for _, words := range [][]string{{"abc", "axc", "ac", ""}, {"ab", "ba", "bab", "aba"}, {"a", "b", "c", "d"}, {"a", "a", "a", "a"}} {
		a, m := merged(t, listsOf(words...)...)
		ok := good(t)
		x, y := ok(a.Var(0)), ok(a.Var(1))
		want := choice.Keep(a, m, ok(a.And(x, y)))
		if got := choice.Keep(a, choice.Keep(a, m, x), y); !slices.Equal(got, want) {
			t.Errorf("%q: %v, not %v", words, got, want)
		}
		if got := choice.Keep(a, choice.Keep(a, m, y), x); !slices.Equal(got, want) {
			t.Errorf("%q: %v, not %v", words, got, want)
		}
		if got := choice.Keep(a, choice.Keep(a, m, x), ok(a.Not(x))); len(got) > 0 {
			t.Errorf("%q: %v", words, got)
		}
	}
}

// M3: the conditions of tokens with a place, all of two names for two tokens, and of others beside them.
func TestM3Where(t *testing.T) {
	a := arena(t, 2)
	p, q := tok('p'), tok('q')
	p.File, p.From, p.To = 3, 4, 6
	q.File, q.From, q.To, q.Kind, q.Blank = 3, 4, 6, 5, true
	beside := []choice.CTok{}
	for _, place := range [][3]int{{2, 4, 6}, {3, 5, 6}, {3, 4, 7}, {4, 3, 6}, {6, 4, 3}, {3, 4, 4}, {0, 0, 0}} {
		x := p
		x.File, x.From, x.To = place[0], place[1], place[2]
		beside = append(beside, choice.CTok{T: x, Cond: 1})
	}
	every(2, func(h has) {
		every(2, func(k has) {
			l := slices.Concat(beside[:3], []choice.CTok{{p, node(t, a, h)}}, beside[3:], []choice.CTok{{q, node(t, a, k)}})
			want := node(t, a, toldWhere(t, a, l, 3, 4, 6))
			if got := choice.Where(a, l, 3, 4, 6); got != want {
				t.Errorf("%v, %v: %d, not %d", h, k, got, want)
			}
			if got := choice.Where(a, l[:len(l)-1], 3, 4, 6); got != node(t, a, h) {
				t.Errorf("%v: %d", h, got)
			}
		})
	})
	for _, place := range [][3]int{{3, 4, 6}, {1, 4, 6}, {3, 6, 4}, {-3, 4, 6}, {3, 4, 5}} {
		if got := choice.Where(a, beside, place[0], place[1], place[2]); got != 0 {
			t.Errorf("%v: %d", place, got)
		}
		if got := choice.Where(a, nil, place[0], place[1], place[2]); got != 0 {
			t.Errorf("%v of no tokens: %d", place, got)
		}
	}
	for _, c := range beside {
		if got := choice.Where(a, beside, c.T.File, c.T.From, c.T.To); got != 1 {
			t.Errorf("%v: %d", c.T, got)
		}
	}
}

// M3: where tokens of lists that are merged are.
func TestM3WhereMerged(t *testing.T) {
	words := []string{"abc", "axc", "bcb", "cxcx"}
	a, m := merged(t, listsOf(words...)...)
	for _, letter := range "abcxz" {
		h := make(has, 4)
		for set, w := range words {
			h[set] = slices.Contains([]rune(w), letter)
		}
		x := tok(letter)
		if got := choice.Where(a, m, x.File, x.From, x.To); got != node(t, a, h) {
			t.Errorf("%c: %v, not %v", letter, hasOf(t, a, got), h)
		}
		if got := choice.Where(a, m, x.File+1, x.From, x.To); got != 0 {
			t.Errorf("%c elsewhere: %v", letter, hasOf(t, a, got))
		}
	}
}

// M4: what is kept is selected where it is kept, and nothing elsewhere.
func TestM4KeptIsSelected(t *testing.T) {
	for _, words := range [][]string{{"abc", "axc", "ac", ""}, {"aab", "ab", "abab", "baba"}, {"xay", "xby", "xcy", "xdy"}, {"", "", "", "a"}} {
		a, m := merged(t, listsOf(words...)...)
		every(2, func(h has) {
			kept := choice.Keep(a, m, node(t, a, h))
			for set, in := range h {
				want := toks(words[set])
				if !in {
					want = nil
				}
				if got := choice.Select(a, kept, set); !slices.Equal(got, want) {
					t.Errorf("%q, %v, %d: %q", words, h, set, wordOf(got))
				}
			}
		})
	}
}
