package splice_test

import (
	"math"
	"slices"
	"strings"
	"testing"

	"emend/api"
	"emend/splice"
)

func TestB1Examples(t *testing.T) {
	for _, x := range []struct {
		text, left string
		at         []int
		pairs      int
	}{
		{"", "", nil, 0},
		{"ab", "ab", []int{0, 1}, 0},
		{"a\\\nb", "ab", []int{0, 3}, 1},
		{"\\", "\\", []int{0}, 0},
		{"a\\", "a\\", []int{0, 1}, 0},
		{"\n", "\n", []int{0}, 0},
		{"\\\n", "", nil, 1},
		{"\\\\\n", "\\", []int{0}, 1},
		{"\\\\\n\n", "\\\n", []int{0, 3}, 1},
		{"\\\n\\\n", "", nil, 2},
		{"a\\\n\\\n\\\nb", "ab", []int{0, 7}, 3},
		{"\\\n\n", "\n", []int{2}, 1},
		{"\n\\", "\n\\", []int{0, 1}, 0},
		{"\\ \n", "\\ \n", []int{0, 1, 2}, 0},
		{"\\\r\n", "\\\r\n", []int{0, 1, 2}, 0},
		{"\xff\\\n\x00", "\xff\x00", []int{0, 3}, 1},
	} {
		l := splice.Join(x.text)
		var at []int
		for _, c := range l {
			at = append(at, c.At)
		}
		if got := splice.Text(l); got != x.left || !slices.Equal(at, x.at) {
			t.Errorf("Join(%q): %q at %v", x.text, got, at)
		}
		if got := splice.Pairs(x.text); got != x.pairs {
			t.Errorf("Pairs(%q): %d", x.text, got)
		}
	}
}

func TestB1AllShortTexts(t *testing.T) {
	for _, text := range append(textsUpTo("a\\\n", 8), awkward()...) {
		want := joined(text)
		if got := splice.Join(text); !slices.Equal(got, want) {
			t.Errorf("Join(%q): %v", text, got)
		}
		if got := splice.Pairs(text); 2*got != len(text)-len(want) {
			t.Errorf("Pairs(%q): %d", text, got)
		}
	}
}

// Text takes any list, not one of Join alone: places do not matter to it.
func TestB1TextOfAnyList(t *testing.T) {
	for _, x := range []struct {
		l    []api.Char
		want string
	}{
		{nil, ""},
		{[]api.Char{}, ""},
		{[]api.Char{{B: 'b', At: 7}, {B: 'a', At: 7}, {B: 'b', At: -1}}, "bab"},
		{[]api.Char{{B: '\\'}, {B: '\n'}}, "\\\n"},
		{[]api.Char{{}, {B: 0xff, At: math.MaxInt}, {B: 0xc3, At: math.MinInt}}, "\x00\xff\xc3"},
	} {
		if got := splice.Text(x.l); got != x.want {
			t.Errorf("Text(%v): %q", x.l, got)
		}
	}
}

func TestB2Examples(t *testing.T) {
	for _, x := range []struct {
		text     string
		from, to int
		a, b     int
		e        api.Errno
	}{
		{"a\\\nbc", 0, 2, 0, 4, api.OK},
		{"a\\\nbc", 1, 1, 3, 3, api.OK},
		{"a\\\nbc", 3, 3, 5, 5, api.OK},
		{"a\\\nbc", 2, 1, 0, 0, api.ErrPlace},
		{"a\\\nbc", 0, 1, 0, 1, api.OK},
		{"\\\na\\\n", 0, 1, 2, 3, api.OK},
		{"\\\na\\\n", 0, 0, 2, 2, api.OK},
		{"\\\na\\\n", 1, 1, 5, 5, api.OK},
		{"", 0, 0, 0, 0, api.OK},
		{"\\\n", 0, 0, 2, 2, api.OK},
		{"\\", 0, 1, 0, 1, api.OK},
		{"\\", 1, 1, 1, 1, api.OK},
		{"\\\\\n", 0, 1, 0, 1, api.OK},
		{"\\\\\n", 1, 1, 3, 3, api.OK},
	} {
		if a, b, e := splice.Span(x.text, x.from, x.to); a != x.a || b != x.b || e != x.e {
			t.Errorf("Span(%q, %d, %d): %d, %d, %v", x.text, x.from, x.to, a, b, e)
		}
	}
}

// spanned is what Span must tell of places that are right.
func spanned(text string, l []api.Char, from, to int) (a, b int) {
	a = len(text)
	if from < len(l) {
		a = l[from].At
	}
	if from == to {
		return a, a
	}
	return a, l[to-1].At + 1
}

func TestB2AllShortTexts(t *testing.T) {
	for _, text := range textsUpTo("a\\\n", 6) {
		l := joined(text)
		for from := -2; from <= len(text)+2; from++ {
			for to := -2; to <= len(text)+2; to++ {
				var a, b int
				e := api.ErrPlace
				if 0 <= from && from <= to && to <= len(l) {
					a, b = spanned(text, l, from, to)
					e = api.OK
				}
				if ga, gb, ge := splice.Span(text, from, to); ga != a || gb != b || ge != e {
					t.Fatalf("Span(%q, %d, %d): %d, %d, %v, not %d, %d, %v", text, from, to, ga, gb, ge, a, b, e)
				}
			}
		}
	}
}

// R3: with an error both places are 0.
func TestB2Wrong(t *testing.T) {
	for _, text := range []string{"", "a", "\\\n", "a\\\nbc", "\\", strings.Repeat(pair, 50)} {
		many := len(joined(text))
		for _, x := range [][2]int{
			{-1, -1}, {-1, 0}, {-1, many}, {0, many + 1}, {many, many + 1}, {many + 1, many + 1},
			{1, 0}, {many + 1, many}, {0, -1}, {0, math.MaxInt}, {math.MaxInt, math.MaxInt},
			{math.MinInt, math.MaxInt}, {math.MinInt, math.MinInt}, {math.MaxInt, math.MinInt}, {0, math.MinInt},
		} {
			if a, b, e := splice.Span(text, x[0], x[1]); a != 0 || b != 0 || e != 20 {
				t.Errorf("Span(%q, %d, %d): %d, %d, %v", text, x[0], x[1], a, b, e)
			}
		}
	}
}

func TestB3Examples(t *testing.T) {
	for _, x := range []struct {
		s      string
		places []int
		want   string
	}{
		{"ab", []int{1}, "a\\\nb"},
		{"ab", []int{0}, "\\\nab"},
		{"ab", []int{2}, "ab\\\n"},
		{"ab", []int{1, 1}, "a\\\n\\\nb"},
		{"ab", []int{2, 0, 1, 0}, "\\\n\\\na\\\nb\\\n"},
		{"ab", nil, "ab"},
		{"ab", []int{}, "ab"},
		{"ab", []int{-1, 3, math.MinInt, math.MaxInt}, "ab"},
		{"ab", []int{3, 1, -1}, "a\\\nb"},
		{"", nil, ""},
		{"", []int{0, 0}, "\\\n\\\n"},
		{"", []int{-1, 1}, ""},
		{"\\\n", []int{1}, "\\\\\n\n"},
		{"\xff\xfe", []int{1}, "\xff\\\n\xfe"},
	} {
		if got := splice.Spread(x.s, x.places); got != x.want {
			t.Errorf("Spread(%q, %v): %q", x.s, x.places, got)
		}
	}
}

// placeLists are all lists of up to three places, from two below 0 to two above the length.
func placeLists(length int) [][]int {
	out := [][]int{nil}
	last := out
	for range 3 {
		var next [][]int
		for _, l := range last {
			for at := -2; at <= length+2; at++ {
				next = append(next, append(slices.Clone(l), at))
			}
		}
		out = append(out, next...)
		last = next
	}
	return out
}

func TestB3AllShortTexts(t *testing.T) {
	for _, s := range textsUpTo("a\\\n", 3) {
		for _, places := range placeLists(len(s)) {
			if got, want := splice.Spread(s, places), spread(s, places); got != want {
				t.Fatalf("Spread(%q, %v): %q, not %q", s, places, got, want)
			}
		}
	}
}

func TestB4SpreadAndJoined(t *testing.T) {
	for _, s := range append(textsUpTo("ab\n", 3), strings.Repeat("a\n\xff", 1000)) {
		lists := [][]int{nil, {0, 1, len(s), len(s)}}
		if len(s) <= 3 {
			lists = placeLists(len(s))
		}
		for _, places := range lists {
			wide := splice.Spread(s, places)
			if got := splice.Text(splice.Join(wide)); got != s {
				t.Fatalf("Spread(%q, %v), joined: %q", s, places, got)
			}
			inside := 0
			for _, at := range places {
				if at >= 0 && at <= len(s) {
					inside++
				}
			}
			if got := splice.Pairs(wide); got != inside {
				t.Fatalf("Spread(%q, %v): %d pairs", s, places, got)
			}
		}
	}
}
