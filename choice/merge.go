package choice

import (
	"slices"

	"emend/api"
	"emend/bdd"
)

// marked is a token's number, and where it is there.
type marked struct {
	tok  int
	cond bdd.Node
}

// numbered are the lists with a number for each token, and the tokens by their numbers: so whole tokens are held against one another but once.
func numbered(lists [][]api.Tok) (rows [][]int, toks []api.Tok) {
	numbers := map[api.Tok]int{}
	for _, l := range lists {
		row := make([]int, 0, len(l))
		for _, t := range l {
			n, known := numbers[t]
			if !known {
				n = len(toks)
				numbers[t] = n
				toks = append(toks, t)
			}
			row = append(row, n)
		}
		rows = append(rows, row)
	}
	return rows, toks
}

// merged takes away what all rows begin and end with before it joins what stands between: rows that are joined two by two might be aligned otherwise.
func merged(a *bdd.Arena, rows [][]int) []marked {
	begin := beginning(rows...)
	first := everywhere(rows[0][:begin])
	rests := make([][]int, 0, len(rows))
	for _, row := range rows {
		rests = append(rests, row[begin:])
	}
	end := ending(rests...)
	between := make([][]marked, 0, len(rows))
	for _, rest := range rests {
		between = append(between, everywhere(rest[:len(rest)-end]))
	}
	last := everywhere(rests[0][len(rests[0])-end:])
	return slices.Concat(first, byNames(a, between), last)
}

// beginning is how many numbers all rows begin with alike.
func beginning(rows ...[]int) int {
	if len(rows) == 0 {
		return 0
	}
	alike := len(rows[0])
	for _, row := range rows {
		alike = min(alike, len(row))
		for i := range alike {
			if row[i] != rows[0][i] {
				alike = i
				break
			}
		}
	}
	return alike
}

// ending is how many numbers all rows end with alike.
func ending(rows ...[]int) int {
	var turned [][]int
	for _, row := range rows {
		back := slices.Clone(row)
		slices.Reverse(back)
		turned = append(turned, back)
	}
	return beginning(turned...)
}

func everywhere(row []int) []marked {
	out := make([]marked, 0, len(row))
	for _, tok := range row {
		out = append(out, marked{tok: tok, cond: always})
	}
	return out
}

// byNames joins the lists of sets that are told apart by a name alone, from the first name on, till one list is left.
func byNames(a *bdd.Arena, lists [][]marked) []marked {
	for i := range a.Vars() {
		name, _ := a.Var(i)
		half := len(lists) / 2
		for j := range half {
			lists[j] = joined(a, name, lists[2*j], lists[2*j+1])
		}
		lists = lists[:half]
	}
	return lists[0]
}

// joined is what is there without a name and what is there with it: what is aligned stands once.
func joined(a *bdd.Arena, name bdd.Node, without, with []marked) []marked {
	var out []marked
	add := func(tok int, no, yes bdd.Node) {
		cond, _ := a.Ite(name, yes, no)
		out = append(out, marked{tok: tok, cond: cond})
	}
	at := pair{}
	apart := func(to pair) {
		for _, m := range without[at.one:to.one] {
			add(m.tok, m.cond, never)
		}
		for _, m := range with[at.other:to.other] {
			add(m.tok, never, m.cond)
		}
	}
	for _, p := range aligned(toksOf(without), toksOf(with)) {
		apart(p)
		add(without[p.one].tok, without[p.one].cond, with[p.other].cond)
		at = p.next()
	}
	apart(pair{len(without), len(with)})
	return out
}

func toksOf(l []marked) []int {
	out := make([]int, 0, len(l))
	for _, m := range l {
		out = append(out, m.tok)
	}
	return out
}
