package presence_test

import (
	"slices"
	"strconv"
	"strings"
	"testing"

	"emend/api"
	"emend/bdd"
	"emend/direct"
	"emend/pptok"
	"emend/presence"
)

func arena(t *testing.T, vars int) *bdd.Arena {
	t.Helper()
	a, e := bdd.New(vars)
	if e != api.OK {
		t.Fatalf("New(%d): %d", vars, e)
	}
	return a
}

// first are the first ones of eight names.
func first(n int) []string {
	return strings.Fields("A B C D E F G H")[:n]
}

// linesOf are the lines of texts.
func linesOf(l ...string) []api.Line {
	if len(l) == 0 {
		return nil
	}
	return direct.Lines(pptok.Tokens(0, strings.Join(l, "\n")+"\n"))
}

// parted are texts that are parted by bars, which stand between blanks: a sign of C has none around it here.
func parted(barred string) []string {
	if barred == "" {
		return nil
	}
	return strings.Split(barred, " | ")
}

// has tells of each set whether something holds for it.
type has []bool

// shown are the sets.
func (h has) shown() string {
	var out []string
	for set, in := range h {
		if in {
			out = append(out, strconv.Itoa(set))
		}
	}
	switch len(out) {
	case 0:
		return "none"
	case len(h):
		return "all"
	}
	return strings.Join(out, " ")
}

// every hands over all that may hold for the sets of so many names.
func every(vars int, do func(h has)) {
	sets := 1 << vars
	for bits := range 1 << sets {
		h := make(has, sets)
		for set := range h {
			h[set] = bits>>set&1 == 1
		}
		do(h)
	}
}

func all(vars int) has {
	return slices.Repeat(has{true}, 1<<vars)
}

// node is the condition that holds for those sets, made of what each of them has.
func node(t *testing.T, a *bdd.Arena, h has) bdd.Node {
	t.Helper()
	good := func(n bdd.Node, e api.Errno) bdd.Node {
		t.Helper()
		if e != api.OK {
			t.Fatalf("error %d", e)
		}
		return n
	}
	out := bdd.Node(0)
	for set, in := range h {
		if !in {
			continue
		}
		one := bdd.Node(1)
		for i := range a.Vars() {
			n := good(a.Var(i))
			if set>>i&1 == 0 {
				n = good(a.Not(n))
			}
			one = good(a.And(one, n))
		}
		out = good(a.Or(out, one))
	}
	return out
}

// hasOf is for which sets a condition holds, asked one by one.
func hasOf(t *testing.T, a *bdd.Arena, n bdd.Node) has {
	t.Helper()
	out := make(has, 1<<a.Vars())
	for set := range out {
		h, e := a.Holds(n, set)
		if e != api.OK {
			t.Fatalf("Holds(%d, %d): %d", n, set, e)
		}
		out[set] = h
	}
	return out
}

// same holds what Cond tells of a line against what the chapter's words tell.
func same(t *testing.T, vars int, text string, asked has) (string, api.Errno) {
	t.Helper()
	a := arena(t, vars)
	got, e := presence.Cond(a, first(vars), linesOf(text)[0], node(t, a, asked))
	want, f := toldCond(first(vars), text, asked)
	if e != f || e != api.OK && got != 0 || e == api.OK && !slices.Equal(hasOf(t, a, got), want) {
		t.Fatalf("%d names, %q, asked %s: %s, %d, not %s, %d", vars, text, asked.shown(), hasOf(t, a, got).shown(), e, want.shown(), f)
	}
	return hasOf(t, a, got).shown(), e
}

// holds checks for which sets of two names a line's condition does, asked everywhere.
func holds(t *testing.T, want string, texts ...string) {
	t.Helper()
	for _, text := range texts {
		if got, e := same(t, 2, text, all(2)); got != want || e != api.OK {
			t.Errorf("%q: %s, %d, not %s", text, got, e, want)
		}
	}
}

// fails checks which error a line's condition has, with two names, asked everywhere.
func fails(t *testing.T, want api.Errno, texts ...string) {
	t.Helper()
	for _, text := range texts {
		if got, e := same(t, 2, text, all(2)); e != want {
			t.Errorf("%q: %s, %d, not %d", text, got, e, want)
		}
	}
}

// sameLines holds what Lines tells against what the chapter's words tell.
func sameLines(t *testing.T, vars int, texts []string) ([]string, int, api.Errno) {
	t.Helper()
	a := arena(t, vars)
	nodes, line, e := presence.Lines(a, first(vars), linesOf(texts...))
	want, wantLine, f := toldLines(first(vars), texts)
	if e != f || line != wantLine || len(nodes) != len(want) || e != api.OK && nodes != nil {
		t.Fatalf("%d names, %q: %d conditions, %d, %d, not %d, %d, %d", vars, texts, len(nodes), line, e, len(want), wantLine, f)
	}
	var out []string
	for i, n := range nodes {
		h := hasOf(t, a, n)
		if !slices.Equal(h, want[i]) {
			t.Fatalf("%d names, %q: line %d: %s, not %s", vars, texts, i, h.shown(), want[i].shown())
		}
		out = append(out, h.shown())
	}
	return out, line, e
}

// reads checks with which of two names lines are read; lines and conditions are parted by bars.
func reads(t *testing.T, want string, barred string) {
	t.Helper()
	got, line, e := sameLines(t, 2, parted(barred))
	if strings.Join(got, " | ") != want || line != 0 || e != api.OK {
		t.Errorf("%q: %q, %d, %d, not %q", barred, strings.Join(got, " | "), line, e, want)
	}
}

// wrong checks which error lines have, and which line it is at, with two names.
func wrong(t *testing.T, e api.Errno, line int, barred ...string) {
	t.Helper()
	for _, b := range barred {
		if got, l, f := sameLines(t, 2, parted(b)); len(got) > 0 || l != line || f != e {
			t.Errorf("%q: %q, %d, %d, not %d, %d", b, got, l, f, line, e)
		}
	}
}

// listsUpTo hands over all lists of the texts, of at most so many; what is handed over is good till the next one comes.
func listsUpTo(most int, from []string, do func(l []string)) {
	l := make([]string, 0, most)
	var grow func()
	grow = func() {
		do(l)
		if len(l) == most {
			return
		}
		for _, s := range from {
			l = append(l, s)
			grow()
			l = l[:len(l)-1]
		}
	}
	grow()
}
