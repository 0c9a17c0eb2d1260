package choice_test

import (
	"slices"
	"strings"
	"testing"

	"emend/api"
	"emend/bdd"
	"emend/choice"
)

func arena(t *testing.T, vars int) *bdd.Arena {
	t.Helper()
	a, e := bdd.New(vars)
	if e != api.OK {
		t.Fatalf("New(%d): %d", vars, e)
	}
	return a
}

// good hands over a condition, if there is no error.
func good(t *testing.T) func(n bdd.Node, e api.Errno) bdd.Node {
	return func(n bdd.Node, e api.Errno) bdd.Node {
		t.Helper()
		if e != api.OK {
			t.Fatalf("error %d", e)
		}
		return n
	}
}

// tok is the token of a letter: those of one letter are the same.
func tok(letter rune) api.Tok {
	return api.Tok{Kind: api.Ident, Text: string(letter), File: 1, From: int(letter), To: int(letter) + 1}
}

// toks are the tokens of a word's letters.
func toks(word string) []api.Tok {
	var out []api.Tok
	for _, letter := range word {
		out = append(out, tok(letter))
	}
	return out
}

func listsOf(words ...string) [][]api.Tok {
	out := make([][]api.Tok, 0, len(words))
	for _, w := range words {
		out = append(out, toks(w))
	}
	return out
}

// wordOf are the letters of tokens, of which nothing but the letter counts.
func wordOf(l []api.Tok) string {
	var s strings.Builder
	for _, t := range l {
		s.WriteString(t.Text)
	}
	return s.String()
}

// has tells of each set whether something holds for it.
type has []bool

// every hands over all that may hold for the sets of so many names.
func every(vars int, do func(h has)) {
	sets := 1 << vars
	for bits := range 1 << sets {
		h := make(has, sets)
		for set := range h {
			h[set] = bits>>set&1 == 1
		}
		do(h)
	}
}

// node is the condition that holds for those sets, made of what each of them has.
func node(t *testing.T, a *bdd.Arena, h has) bdd.Node {
	t.Helper()
	ok := good(t)
	out := bdd.Node(0)
	for set, in := range h {
		if !in {
			continue
		}
		one := bdd.Node(1)
		for i := range a.Vars() {
			n := ok(a.Var(i))
			if set>>i&1 == 0 {
				n = ok(a.Not(n))
			}
			one = ok(a.And(one, n))
		}
		out = ok(a.Or(out, one))
	}
	return out
}

// hasOf is for which sets a condition holds, asked one by one; a number that is no condition of the arena is found here.
func hasOf(t *testing.T, a *bdd.Arena, n bdd.Node) has {
	t.Helper()
	out := make(has, 1<<a.Vars())
	for set := range out {
		h, e := a.Holds(n, set)
		if e != api.OK {
			t.Fatalf("Holds(%d, %d): %d", n, set, e)
		}
		out[set] = h
	}
	return out
}

// merged is what Merge tells, held against all that the chapter says of it.
func merged(t *testing.T, lists ...[]api.Tok) (*bdd.Arena, []choice.CTok) {
	t.Helper()
	vars := 0
	for 1<<vars < len(lists) {
		vars++
	}
	a := arena(t, vars)
	m, e := choice.Merge(a, lists)
	if e != api.OK {
		t.Fatalf("%d lists: error %d", len(lists), e)
	}
	if wrong := toldMerge(t, a, lists, m); wrong != "" {
		if len(lists) < 9 && len(m) < 99 {
			t.Logf("%v: %v", lists, m)
		}
		t.Fatalf("%d names, %d parts: %s", vars, len(m), wrong)
	}
	return a, m
}

// merges checks what Merge tells of words: letters, each with the sets for which it is there behind it, if they are not all; what stands for two of them may come in either order, so that several answers may be right.
func merges(t *testing.T, words []string, want ...string) {
	t.Helper()
	a, m := merged(t, listsOf(words...)...)
	if got := shown(t, a, m); !slices.Contains(want, got) {
		t.Errorf("%q: %q, not one of %q", words, got, want)
	}
}

// shown are tokens with the sets for which they are there.
func shown(t *testing.T, a *bdd.Arena, l []choice.CTok) string {
	t.Helper()
	var out []string
	for _, c := range l {
		sets := ""
		h := hasOf(t, a, c.Cond)
		for set, in := range h {
			if in {
				sets += string(rune('0' + set))
			}
		}
		if !slices.Contains(h, false) {
			sets = ""
		}
		out = append(out, c.T.Text+sets)
	}
	return strings.Join(out, " ")
}

// wordsUpTo are all words of the letters, of at most so many.
func wordsUpTo(most int, letters string) []string {
	out := []string{""}
	for from := 0; most > 0; most-- {
		end := len(out)
		for _, w := range out[from:end] {
			for _, letter := range letters {
				out = append(out, w+string(letter))
			}
		}
		from = end
	}
	return out
}

// picks hands over all lists of so many of the words; what is handed over is good till the next one comes.
func picks(n int, words []string, do func(l []string)) {
	l := make([]string, n)
	var grow func(at int)
	grow = func(at int) {
		if at == n {
			do(l)
			return
		}
		for _, w := range words {
			l[at] = w
			grow(at + 1)
		}
	}
	grow(0)
}
