package choice_test

import (
	"slices"
	"strconv"
	"testing"

	"emend/api"
	"emend/bdd"
	"emend/choice"
)

// What the calls must tell, by the words of the chapter, with what holds for each set written out.

// toldSelect are the tokens that are there for a set.
func toldSelect(t *testing.T, a *bdd.Arena, l []choice.CTok, set int) []api.Tok {
	t.Helper()
	var out []api.Tok
	for _, c := range l {
		if hasOf(t, a, c.Cond)[set] {
			out = append(out, c.T)
		}
	}
	return out
}

// toldKeep are the tokens of which some set has the condition and n, with what holds for just these sets.
func toldKeep(t *testing.T, a *bdd.Arena, l []choice.CTok, n has) []choice.CTok {
	t.Helper()
	var out []choice.CTok
	for _, c := range l {
		both := hasOf(t, a, c.Cond)
		for set := range both {
			both[set] = both[set] && n[set]
		}
		if slices.Contains(both, true) {
			out = append(out, choice.CTok{T: c.T, Cond: node(t, a, both)})
		}
	}
	return out
}

// toldWhere is for which sets a token with this place is among those that are selected.
func toldWhere(t *testing.T, a *bdd.Arena, l []choice.CTok, file, from, to int) has {
	t.Helper()
	out := make(has, 1<<a.Vars())
	for set := range out {
		for _, x := range toldSelect(t, a, l, set) {
			out[set] = out[set] || [3]int{x.File, x.From, x.To} == [3]int{file, from, to}
		}
	}
	return out
}

// toldMerge is what is wrong with what Merge tells of lists.
func toldMerge(t *testing.T, a *bdd.Arena, lists [][]api.Tok, m []choice.CTok) string {
	t.Helper()
	known := map[bdd.Node]has{}
	told := make([][]api.Tok, len(lists))
	for i, c := range m {
		if c.Cond == 0 {
			return "never there: " + strconv.Itoa(i)
		}
		if known[c.Cond] == nil {
			known[c.Cond] = hasOf(t, a, c.Cond)
		}
		for set, in := range known[c.Cond] {
			if in {
				told[set] = append(told[set], c.T)
			}
		}
	}
	all := 0
	for set, l := range lists {
		all += len(l)
		if !slices.Equal(told[set], l) || !slices.Equal(choice.Select(a, m, set), l) {
			return "not the list of set " + strconv.Itoa(set)
		}
	}
	if len(m) > all {
		return "more than all lists have"
	}
	return toldEnds(lists, m)
}

// toldEnds is what is wrong with what comes first and last: what all lists begin with is taken away from them token by token, then what they end with.
func toldEnds(lists [][]api.Tok, m []choice.CTok) string {
	left := slices.Clone(lists)
	for i := 0; ; i++ {
		x, ok := alike(left, func(l []api.Tok) api.Tok { return l[0] })
		if !ok {
			m = m[i:]
			break
		}
		if i == len(m) || m[i] != (choice.CTok{T: x, Cond: 1}) {
			return "not what all begin with at " + strconv.Itoa(i)
		}
		for j := range left {
			left[j] = left[j][1:]
		}
	}
	for i := len(m) - 1; ; i-- {
		x, ok := alike(left, func(l []api.Tok) api.Tok { return l[len(l)-1] })
		if !ok {
			return ""
		}
		if i < 0 || m[i] != (choice.CTok{T: x, Cond: 1}) {
			return "not what all end with at " + strconv.Itoa(i)
		}
		for j := range left {
			left[j] = left[j][:len(left[j])-1]
		}
	}
}

// alike is the token that each list has there, if there is one.
func alike(lists [][]api.Tok, at func(l []api.Tok) api.Tok) (api.Tok, bool) {
	for _, l := range lists {
		if len(l) == 0 || at(l) != at(lists[0]) {
			return api.Tok{}, false
		}
	}
	return at(lists[0]), true
}

// toldShared is how many tokens two lists have in common, in the same order.
func toldShared(one, other string) int {
	if one == "" || other == "" {
		return 0
	}
	if one[0] == other[0] {
		return 1 + toldShared(one[1:], other[1:])
	}
	return max(toldShared(one[1:], other), toldShared(one, other[1:]))
}
