package cond_test

import (
	"regexp"
	"slices"
	"sort"
	"strconv"
	"strings"

	"emend/api"
)

// letters stand for kinds of lines, so that a list of lines is a text that regular expressions can be held against.
var letters = map[byte]int{'t': api.Text, 'i': api.If, 'd': api.Ifdef, 'n': api.Ifndef, 'e': api.Elif, 'l': api.Else, 'f': api.Endif}

// others are the kinds that begin, part and end no conditional, and numbers that are no kind.
var others = []int{
	api.Text, api.Define, api.Undef, api.Include, api.Error, api.Pragma, api.LineNo, api.Null, api.Unknown,
	0, -1, -2, -6, -7, 16, 256 + api.If, 256 + api.Endif, 1<<32 + api.If, 1<<32 + api.Else, 1<<62 + 7, 1<<63 - 1, -1 << 63,
}

// linesOf are the lines that letters stand for.
func linesOf(s string) []api.Line {
	out := make([]api.Line, 0, len(s))
	for i := range len(s) {
		kind, ok := letters[s[i]]
		if !ok {
			panic("no kind for " + s[i:i+1])
		}
		out = append(out, api.Line{Kind: kind, First: 3 * i, N: 2, Toks: []api.Tok{{Kind: api.Ident, Text: s[i : i+1]}}})
	}
	return out
}

// textsUpTo are all texts of the letters, of at most so many bytes.
func textsUpTo(letters string, most int) []string {
	out := []string{""}
	last := out
	for range most {
		var next []string
		for _, s := range last {
			for _, b := range []byte(letters) {
				next = append(next, s+string([]byte{b}))
			}
		}
		out = append(out, next...)
		last = next
	}
	return out
}

// manyLists are lists in which conditionals begin, go on and end in every way, and some that are long or deep.
func manyLists() []string {
	out := textsUpTo("tielf", 7)
	out = append(out, textsUpTo("tidnelf", 5)...)
	return append(out,
		strings.Repeat("t", 2000), strings.Repeat("itetltf", 300), strings.Repeat("d", 500)+strings.Repeat("f", 500), strings.Repeat("itel", 300)+strings.Repeat("tf", 300),
		strings.Repeat("n", 500)+strings.Repeat("f", 501), strings.Repeat("it", 500)+strings.Repeat("lf", 499), "i"+strings.Repeat("et", 500)+"lf")
}

var (
	// ended is a conditional that has none within it.
	ended = regexp.MustCompile(`[idn]t*(et*)*(lt*)?f`)
	// going is what may stand where a text was read so far, its ended conditionals taken for lines outside them.
	going = regexp.MustCompile(`^t*([idn]t*(et*)*(lt*)?)*$`)
)

// smoothed has all ended conditionals taken for as many lines of text.
func smoothed(s string) string {
	for ended.MatchString(s) {
		s = ended.ReplaceAllStringFunc(s, func(x string) string { return strings.Repeat("t", len(x)) })
	}
	return s
}

// fault tells what is wrong with lines, by E1's words: the first line behind which nothing could stand, or the innermost conditional that is open.
func fault(s string) (line int, e api.Errno) {
	rest := smoothed(s)
	if !going.MatchString(rest) {
		// What stands behind a wrong line never mends it, so that the first one can be looked for by halves.
		return sort.Search(len(s), func(i int) bool { return !going.MatchString(smoothed(s[:i+1])) }), api.ErrElse
	}
	if open := strings.LastIndexAny(rest, "idn"); open >= 0 {
		return open, api.ErrOpen
	}
	return 0, api.OK
}

// matched are, of the conditional that begins at a line of lines that have no fault, the lines of its own, found by how many are open.
func matched(s string, from int) (own []int) {
	open := 0
	for i := from; i < len(s); i++ {
		switch {
		case strings.IndexByte("idn", s[i]) >= 0:
			open++
			if open == 1 {
				own = append(own, i)
			}
		case s[i] == 'f':
			open--
			if open == 0 {
				return append(own, i)
			}
		case s[i] != 't' && open == 1:
			own = append(own, i)
		}
	}
	panic("open: " + s)
}

// tree is what Parse must tell of the lines from one to another, which have no fault.
func tree(s string, from, to int) []api.Item {
	var out []api.Item
	for i := from; i < to; i++ {
		x := api.Item{Line: i, End: i}
		if s[i] != 't' {
			own := matched(s, i)
			x.End = own[len(own)-1]
			for k, line := range own[:len(own)-1] {
				x.Branches = append(x.Branches, api.Branch{Line: line, Items: tree(s, line+1, own[k+1])})
			}
		}
		out = append(out, x)
		i = x.End
	}
	return out
}

// having are the branches that have a line of lines that have no fault: each goes up to the next line of its conditional, the last one through it.
func having(s string, line int) []int {
	var out []int
	for i := range len(s) {
		if strings.IndexByte("idn", s[i]) < 0 {
			continue
		}
		own := matched(s, i)
		last := len(own) - 2
		for k, begins := range own[:last+1] {
			if begins <= line && (line < own[k+1] || k == last && line == own[k+1]) {
				out = append(out, begins)
			}
		}
	}
	slices.Sort(out)
	return out
}

// deepest is the greatest number of conditionals that are open at a line.
func deepest(s string) int {
	most := 0
	for i := range len(s) + 1 {
		begun := strings.Count(s[:i], "i") + strings.Count(s[:i], "d") + strings.Count(s[:i], "n")
		most = max(most, begun-strings.Count(s[:i], "f"))
	}
	return most
}

// shown tells items in full: a line as Line-End, a conditional with its branches in brackets.
func shown(items []api.Item) string {
	var out strings.Builder
	for i, x := range items {
		if i > 0 {
			out.WriteByte(' ')
		}
		out.WriteString(strconv.Itoa(x.Line) + "-" + strconv.Itoa(x.End))
		for _, b := range x.Branches {
			out.WriteString("(" + strconv.Itoa(b.Line) + ": " + shown(b.Items) + ")")
		}
	}
	return out.String()
}

// plain are items without Branches; their End is none of Flat's, Depth's and Around's concern.
func plain(numbers ...int) []api.Item {
	var out []api.Item
	for _, n := range numbers {
		out = append(out, api.Item{Line: n, End: -77})
	}
	return out
}
