package cond_test

import (
	"math"
	"slices"
	"strings"
	"testing"

	"emend/api"
	"emend/cond"
)

func TestE1Trees(t *testing.T) {
	for _, x := range []struct{ lines, want string }{
		{"", ""},
		{"t", "0-0"},
		{"ttt", "0-0 1-1 2-2"},
		{"titltf", "0-0 1-5(1: 2-2)(3: 4-4)"},
		{"if", "0-1(0: )"},
		{"df", "0-1(0: )"},
		{"nf", "0-1(0: )"},
		{"itf", "0-2(0: 1-1)"},
		{"dtelf", "0-4(0: 1-1)(2: )(3: )"},
		{"nltf", "0-3(0: )(1: 2-2)"},
		{"ielf", "0-3(0: )(1: )(2: )"},
		{"iteteteltf", "0-9(0: 1-1)(2: 3-3)(4: 5-5)(6: )(7: 8-8)"},
		{"ittlttf", "0-6(0: 1-1 2-2)(3: 4-4 5-5)"},
		{"ifif", "0-1(0: ) 2-3(2: )"},
		{"ilfdlf", "0-2(0: )(1: ) 3-5(3: )(4: )"},
		{"tiftnft", "0-0 1-2(1: ) 3-3 4-5(4: ) 6-6"},
		{"idfelf", "0-5(0: 1-2(1: ))(3: )(4: )"},
		{"ieitflf", "0-6(0: )(1: 2-4(2: 3-3))(5: )"},
		{"ieltdtelff", "0-9(0: )(1: )(2: 3-3 4-8(4: 5-5)(6: )(7: ))"},
		{"idnfff", "0-5(0: 1-4(1: 2-3(2: )))"},
		{"iiftiff", "0-6(0: 1-2(1: ) 3-3 4-5(4: ))"},
		{"iilfelf", "0-6(0: 1-3(1: )(2: ))(4: )(5: )"},
	} {
		items, line, e := cond.Parse(linesOf(x.lines))
		if e != api.OK || line != 0 || shown(items) != x.want {
			t.Errorf("Parse of %q: %s, %d, %d, not %s", x.lines, shown(items), line, e, x.want)
		}
	}
}

func TestE1Wrong(t *testing.T) {
	for _, x := range []struct {
		lines string
		line  int
		e     api.Errno
	}{
		{"e", 0, 50}, {"l", 0, 50}, {"f", 0, 50},
		{"te", 1, 50}, {"tl", 1, 50}, {"tf", 1, 50},
		{"ife", 2, 50}, {"ifl", 2, 50}, {"iff", 2, 50}, {"dltfttf", 6, 50}, {"niffte", 5, 50},
		{"ilef", 2, 50}, {"illf", 2, 50}, {"ieltetf", 4, 50}, {"itltlt", 4, 50},
		{"ilifef", 4, 50}, {"iliflf", 4, 50}, {"ildlftl", 6, 50}, {"ilnelfeff", 6, 50}, {"iilelff", 3, 50}, {"ileilelf", 2, 50},
		{"ffe", 0, 50}, {"eii", 0, 50}, {"ilei", 2, 50}, {"iffill", 2, 50}, {"iille", 3, 50}, {"ilille", 4, 50},
		{"i", 0, 51}, {"d", 0, 51}, {"n", 0, 51}, {"it", 0, 51}, {"tti", 2, 51}, {"ttitelt", 2, 51},
		{"idf", 0, 51}, {"id", 1, 51}, {"idn", 2, 51}, {"tidfn", 4, 51}, {"idnff", 0, 51}, {"idnf", 1, 51}, {"titld", 4, 51}, {"tildlf", 1, 51},
		{"ifd", 2, 51}, {"iftnt", 3, 51}, {"ielfind", 6, 51}, {"iifif", 0, 51}, {"iifi", 3, 51},
	} {
		items, line, e := cond.Parse(linesOf(x.lines))
		if len(items) != 0 || line != x.line || e != x.e {
			t.Errorf("Parse of %q: %s, %d, %d, not %d, %d", x.lines, shown(items), line, e, x.line, x.e)
		}
	}
}

// Each kind that begins, parts and ends no conditional is a line as any, outside conditionals and within; so is a number that is no kind.
func TestE1OtherKinds(t *testing.T) {
	var all []api.Line
	for _, kind := range others {
		all = append(all, api.Line{Kind: kind})
		items, line, e := cond.Parse([]api.Line{{Kind: kind}, {Kind: api.If}, {Kind: kind}, {Kind: api.Else}, {Kind: kind}, {Kind: api.Endif}, {Kind: kind}})
		if e != api.OK || line != 0 || shown(items) != "0-0 1-5(1: 2-2)(3: 4-4) 6-6" {
			t.Errorf("Parse with the kind %d: %s, %d, %d", kind, shown(items), line, e)
		}
	}
	items, line, e := cond.Parse(all)
	if want := tree(strings.Repeat("t", len(all)), 0, len(all)); e != api.OK || line != 0 || shown(items) != shown(want) {
		t.Errorf("Parse of all of them: %s, %d, %d", shown(items), line, e)
	}
}

func TestE1AllShortLists(t *testing.T) {
	for _, s := range manyLists() {
		items, line, e := cond.Parse(linesOf(s))
		wantLine, wantE := fault(s)
		if line != wantLine || e != wantE {
			t.Fatalf("Parse of %q: %d, %d, not %d, %d", s, line, e, wantLine, wantE)
		}
		want := ""
		if e == api.OK {
			want = shown(tree(s, 0, len(s)))
		}
		if shown(items) != want {
			t.Fatalf("Parse of %q: %s, not %s", s, shown(items), want)
		}
	}
}

func TestE2HandMade(t *testing.T) {
	deep := plain(5)
	var ahead, behind []int
	for i := range 2000 {
		ahead, behind = append(ahead, -i), append(behind, i)
		deep = []api.Item{{Line: 99, End: i, Branches: []api.Branch{{Line: -i, Items: deep}}}}
	}
	slices.Reverse(ahead)
	for _, x := range []struct {
		items []api.Item
		flat  []int
		depth int
	}{
		{nil, nil, 0},
		{[]api.Item{}, nil, 0},
		{plain(0), []int{0}, 0},
		{plain(7, -3, 7, math.MaxInt), []int{7, -3, 7, math.MaxInt}, 0},
		{[]api.Item{{Line: 4, End: 9, Branches: []api.Branch{}}}, []int{4}, 0},
		{[]api.Item{{Line: 4, End: 9, Branches: []api.Branch{{Line: 5}}}}, []int{5, 9}, 1},
		{[]api.Item{{Line: 4, End: 9, Branches: []api.Branch{{Line: 5, Items: []api.Item{}}, {Line: 3, Items: plain(8, 1)}}}, {Line: 2}}, []int{5, 3, 8, 1, 9, 2}, 1},
		{[]api.Item{{End: 1, Branches: []api.Branch{{Line: 6, Items: []api.Item{{End: 2, Branches: []api.Branch{{Line: 7}, {Line: 8}}}}}, {Line: 9}}}}, []int{6, 7, 8, 2, 9, 1}, 2},
		{deep, slices.Concat(ahead, []int{5}, behind), 2000},
	} {
		if got := cond.Flat(x.items); !slices.Equal(got, x.flat) {
			t.Errorf("Flat of %s: %v, not %v", shown(x.items), got, x.flat)
		}
		if got := cond.Depth(x.items); got != x.depth {
			t.Errorf("Depth of %s: %d, not %d", shown(x.items), got, x.depth)
		}
	}
}

// Depth is the greatest, in whichever item, and in whichever of its branches, that stands.
func TestE2DepthOfParsed(t *testing.T) {
	for lines, want := range map[string]int{"t": 0, "tt": 0, "if": 1, "ielf": 1, "ifif": 1, "iiff": 2, "iiffif": 2, "ifiiff": 2, "idfelf": 2, "iedflf": 2, "ieldff": 2, "iidffelf": 3, "ieidfflf": 3, "ielidfff": 3, "ifielidfffif": 3} {
		items, _, e := cond.Parse(linesOf(lines))
		if got := cond.Depth(items); e != api.OK || got != want {
			t.Errorf("Depth of %q: %d (%d), not %d", lines, got, e, want)
		}
	}
}

func TestE3Parsed(t *testing.T) {
	for _, x := range []struct {
		lines string
		want  [][]int // of each line
	}{
		{"", nil},
		{"tt", [][]int{nil, nil}},
		{"titltf", [][]int{nil, {1}, {1}, {3}, {3}, {3}}},
		{"ifdf", [][]int{{0}, {0}, {2}, {2}}},
		{"idtftf", [][]int{{0}, {0, 1}, {0, 1}, {0, 1}, {0}, {0}}},
		{"ietdelfeltnff", [][]int{{0}, {1}, {1}, {1, 3}, {1, 4}, {1, 5}, {1, 5}, {7}, {8}, {8}, {8, 10}, {8, 10}, {8}}},
		{"idnfff", [][]int{{0}, {0, 1}, {0, 1, 2}, {0, 1, 2}, {0, 1}, {0}}},
	} {
		items, _, e := cond.Parse(linesOf(x.lines))
		if e != api.OK {
			t.Fatalf("Parse of %q: %d", x.lines, e)
		}
		for line, want := range x.want {
			if got := cond.Around(items, line); !slices.Equal(got, want) {
				t.Errorf("Around of line %d of %q: %v, not %v", line, x.lines, got, want)
			}
		}
		for _, line := range []int{-1, -2, len(x.lines), len(x.lines) + 1, math.MaxInt, math.MinInt} {
			if got := cond.Around(items, line); len(got) != 0 {
				t.Errorf("Around of line %d of %q: %v", line, x.lines, got)
			}
		}
	}
}

// Around of items that no lines have: a branch has what Flat tells of it, so a conditional's own Line is none that it has, and a line that several have is told of each.
func TestE3HandMade(t *testing.T) {
	items := []api.Item{
		{Line: 1, End: 40},
		{Line: 50, End: 60, Branches: []api.Branch{{Line: 10, Items: plain(3)}, {Line: 20, Items: []api.Item{{Line: 70, End: -5, Branches: []api.Branch{{Line: 30, Items: plain(3, 4)}, {Line: 30}}}}}}},
		{Line: 2, End: 4, Branches: []api.Branch{{Line: 80}, {Line: 10}}},
	}
	for line, want := range map[int][]int{0: nil, 1: nil, 40: nil, -77: nil, 50: nil, 70: nil, 2: nil, 10: {10, 10}, 3: {10, 20, 30}, 4: {20, 30, 10}, 30: {20, 30, 30}, -5: {20, 30}, 60: {20}, 20: {20}, 80: {80}} {
		if got := cond.Around(items, line); !slices.Equal(got, want) {
			t.Errorf("Around of %d: %v, not %v", line, got, want)
		}
	}
	for _, none := range [][]api.Item{nil, {}, plain(0, 1)} {
		for _, line := range []int{-77, -1, 0, 1} {
			if got := cond.Around(none, line); len(got) != 0 {
				t.Errorf("Around of %d of %s: %v", line, shown(none), got)
			}
		}
	}
}

func TestE4AndAllShortLists(t *testing.T) {
	for _, s := range manyLists() {
		items, _, e := cond.Parse(linesOf(s))
		if e != api.OK {
			continue
		}
		flat := cond.Flat(items)
		if len(flat) != len(s) {
			t.Fatalf("Flat of %q: %v", s, flat)
		}
		for i, line := range flat {
			if i != line {
				t.Fatalf("Flat of %q: %v", s, flat)
			}
		}
		if got := cond.Depth(items); got != deepest(s) {
			t.Fatalf("Depth of %q: %d, not %d", s, got, deepest(s))
		}
		if len(s) > 100 {
			continue // having looks at all lines for each
		}
		for line := -1; line <= len(s); line++ {
			if got, want := cond.Around(items, line), having(s, line); !slices.Equal(got, want) {
				t.Fatalf("Around of line %d of %q: %v, not %v", line, s, got, want)
			}
		}
	}
}
