package choice

import (
	"slices"
	"sort"
)

// pair is a place in each of two rows.
type pair struct{ one, other int }

func (p pair) next() pair {
	return pair{p.one + 1, p.other + 1}
}

// alignment looks for places of two rows at which the same number stands; those that are found rise in both rows.
type alignment struct {
	one, other []int
	found      []pair
}

// aligned are such places: as many as there can be, unless a table would be too great for that.
func aligned(one, other []int) []pair {
	begin := beginning(one, other)
	end := ending(one[begin:], other[begin:])
	x := alignment{one: one, other: other}
	ends := pair{len(one) - end, len(other) - end}
	x.along(pair{}, begin)
	x.between(pair{begin, begin}, ends)
	x.along(ends, end)
	return x.found
}

func (x *alignment) along(from pair, n int) {
	for i := range n {
		x.found = append(x.found, pair{from.one + i, from.other + i})
	}
}

// between takes one table, if that is not too great. Long rows are tied together at some places first, and have tables for the gaps.
func (x *alignment) between(from, to pair) {
	if small(from, to) {
		x.byTable(from, to)
		return
	}
	for _, tie := range rising(x.ties(from, to)) {
		x.gap(from, tie)
		x.found = append(x.found, tie)
		from = tie.next()
	}
	x.gap(from, to)
}

func (x *alignment) gap(from, to pair) {
	if small(from, to) {
		x.byTable(from, to)
	}
}

// mostCells is how great a table may be. Gaps whose tables keep to it need, all together, no more than its root for each number of the rows, however long these are.
const mostCells = 1 << 18

func small(from, to pair) bool {
	return (to.one-from.one)*(to.other-from.other) <= mostCells
}

// byTable finds as many places as there are. The table has for each place of both rows how many can be found ahead of it.
func (x *alignment) byTable(from, to pair) {
	one, other := x.one[from.one:to.one], x.other[from.other:to.other]
	most := make([][]int, len(one)+1)
	most[0] = make([]int, len(other)+1)
	for i := range len(one) {
		most[i+1] = make([]int, len(other)+1)
		for j := range len(other) {
			if one[i] == other[j] {
				most[i+1][j+1] = most[i][j] + 1
			} else {
				most[i+1][j+1] = max(most[i][j+1], most[i+1][j])
			}
		}
	}
	start := len(x.found)
	for i, j := len(one), len(other); i > 0 && j > 0; {
		switch most[i][j] {
		case most[i-1][j]:
			i--
		case most[i][j-1]:
			j--
		default:
			i, j = i-1, j-1
			x.found = append(x.found, pair{from.one + i, from.other + j})
		}
	}
	slices.Reverse(x.found[start:])
}

// ties are places at which the same number stands for the same time in both rows, the first, the second, and so on; they rise in the one row.
func (x *alignment) ties(from, to pair) []pair {
	places := map[int][]int{}
	for j := from.other; j < to.other; j++ {
		places[x.other[j]] = append(places[x.other[j]], j)
	}
	var out []pair
	for i := from.one; i < to.one; i++ {
		if left := places[x.one[i]]; len(left) > 0 {
			out = append(out, pair{i, left[0]})
			places[x.one[i]] = left[1:]
		}
	}
	return out
}

// rising are, of pairs that rise in the one row, as many as rise in the other too.
func rising(pairs []pair) []pair {
	var last []int // of the chains of each length, the last pair of one that ends earliest in the other row
	before := make([]int, len(pairs))
	for i, p := range pairs {
		length := sort.Search(len(last), func(n int) bool { return pairs[last[n]].other > p.other })
		if length == len(last) {
			last = append(last, i)
		}
		last[length] = i
		if length > 0 {
			before[i] = last[length-1]
		}
	}
	if len(last) == 0 {
		return nil
	}
	out := make([]pair, len(last))
	i := last[len(last)-1]
	for n := range out {
		out[len(out)-1-n] = pairs[i]
		i = before[i]
	}
	return out
}
