package cond_test

import (
	"slices"
	"strings"
	"testing"

	"emend/api"
	"emend/cond"
)

// The numbers that this layer tells are the document's.
func TestNumbers(t *testing.T) {
	if api.OK != 0 || api.ErrElse != 50 || api.ErrOpen != 51 {
		t.Error("errors")
	}
	for i, k := range []int{api.Text, api.If, api.Ifdef, api.Ifndef, api.Elif, api.Else, api.Endif, api.Define, api.Undef, api.Include, api.Error, api.Pragma, api.LineNo, api.Null, api.Unknown} {
		if k != i+1 {
			t.Errorf("%d is %d", i+1, k)
		}
	}
}

// R1: as deep as the document's limits allow, and in little more steps than there are lines.
func TestR1Deep(t *testing.T) {
	const most = 1 << 16
	s := strings.Repeat("i", most) + strings.Repeat("f", most)
	items, line, e := cond.Parse(linesOf(s))
	if e != api.OK || line != 0 {
		t.Fatalf("Parse: %d, %d", line, e)
	}
	if got := cond.Depth(items); got != most {
		t.Errorf("Depth: %d", got)
	}
	for _, got := range [][]int{cond.Flat(items)[:most], cond.Around(items, most)} {
		if len(got) != most || got[0] != 0 || got[most-1] != most-1 {
			t.Errorf("%d numbers", len(got))
		}
	}
	if items, line, e := cond.Parse(linesOf(s[:2*most-1])); len(items) != 0 || line != 0 || e != api.ErrOpen {
		t.Errorf("Parse without the last line: %d, %d", line, e)
	}
	if items, line, e := cond.Parse(linesOf(s + "f")); len(items) != 0 || line != 2*most || e != api.ErrElse {
		t.Errorf("Parse with a line more: %d, %d", line, e)
	}
}

// R4: a nil list and an empty one are the same, within other data too.
func TestR4NoLines(t *testing.T) {
	for _, none := range [][]api.Line{nil, {}} {
		if items, line, e := cond.Parse(none); len(items) != 0 || line != 0 || e != api.OK {
			t.Errorf("Parse: %s, %d, %d", shown(items), line, e)
		}
	}
	for _, none := range [][]api.Item{nil, {}, {{Line: 3, Branches: []api.Branch{}}}} {
		if got := cond.Depth(none); got != 0 {
			t.Errorf("Depth: %d", got)
		}
		if got := cond.Flat(none); len(got) != len(none) {
			t.Errorf("Flat: %v", got)
		}
	}
}

// R5: what is handed in stays as it was.
func TestR5NothingIsChanged(t *testing.T) {
	const s = "tiditflfeltf"
	lines := linesOf(s)
	cond.Parse(lines)
	cond.Parse(lines[:5])
	cond.Parse(lines[1:])
	if !slices.EqualFunc(lines, linesOf(s), func(x, y api.Line) bool {
		return x.Kind == y.Kind && x.First == y.First && x.N == y.N && slices.Equal(x.Toks, y.Toks)
	}) {
		t.Errorf("the lines are now %v", lines)
	}
	items, _, _ := cond.Parse(linesOf("tidtfelfnf"))
	was := shown(items)
	flat := cond.Flat(items)
	around := cond.Around(items, 3)
	for _, l := range [][]int{flat, around} {
		for i := range l {
			l[i] = -9
		}
	}
	cond.Depth(items)
	if was == "" || shown(items) != was {
		t.Errorf("the items are now %s, not %s", shown(items), was)
	}
}

// grow puts one more item and one more branch at each list's end, which spoils what shares its memory.
func grow(items []api.Item) {
	for _, x := range items {
		for _, b := range x.Branches {
			grow(b.Items)
			_ = append(b.Items, api.Item{Line: -9, End: -9})
		}
		_ = append(x.Branches, api.Branch{Line: -9})
	}
	_ = append(items, api.Item{Line: -9, End: -9})
}

// spoil changes every number of items.
func spoil(items []api.Item) {
	for i := range items {
		for k := range items[i].Branches {
			spoil(items[i].Branches[k].Items)
			items[i].Branches[k].Line = -9
		}
		items[i].Line, items[i].End = -9, -9
	}
}

// R6: a call hangs on its arguments alone, so that an answer that is spoilt spoils no other, and a fault leaves nothing behind; and no list of an answer shares memory with another one.
func TestR6NothingIsKept(t *testing.T) {
	const s = "tittdtttfettteidnfflfttltfif"
	want := shown(tree(s, 0, len(s)))
	first, _, _ := cond.Parse(linesOf(s))
	grow(first)
	if shown(first) != want {
		t.Errorf("with lists that grew: %s, not %s", shown(first), want)
	}
	second, _, _ := cond.Parse(linesOf(s))
	spoil(first)
	cond.Parse(linesOf("iiil"))
	cond.Parse(linesOf("ill"))
	third, _, _ := cond.Parse(linesOf(s))
	if shown(second) != want || shown(third) != want {
		t.Errorf("told again: %s and %s, not %s", shown(second), shown(third), want)
	}
}
