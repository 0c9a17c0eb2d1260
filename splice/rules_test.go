package splice_test

import (
	"math"
	"slices"
	"testing"

	"emend/api"
	"emend/splice"
)

// R5: what is handed in stays as it was.
func TestR5NothingIsChanged(t *testing.T) {
	places := []int{2, -1, 0, 2, 9}
	splice.Spread("ab", places)
	if !slices.Equal(places, []int{2, -1, 0, 2, 9}) {
		t.Errorf("places are now %v", places)
	}
	l := []api.Char{{B: 'b', At: 3}, {B: 'a', At: 1}}
	splice.Text(l)
	if !slices.Equal(l, []api.Char{{B: 'b', At: 3}, {B: 'a', At: 1}}) {
		t.Errorf("the list is now %v", l)
	}
}

// R6: a call hangs on its arguments alone, so that an answer that is spoilt spoils no other.
func TestR6NothingIsKept(t *testing.T) {
	first := splice.Join("a\\\nbc")
	for i := range first {
		first[i] = api.Char{B: 'x', At: -1}
	}
	splice.Span("a\\\nbc", 2, 1)
	splice.Spread("a\\\nbc", []int{math.MaxInt})
	want := []api.Char{{B: 'a', At: 0}, {B: 'b', At: 3}, {B: 'c', At: 4}}
	if got := splice.Join("a\\\nbc"); !slices.Equal(got, want) {
		t.Errorf("told again: %v", got)
	}
}
