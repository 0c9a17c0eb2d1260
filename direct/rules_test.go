package direct_test

import (
	"slices"
	"testing"

	"emend/api"
	"emend/direct"
)

// The numbers that this layer tells are the document's.
func TestNumbers(t *testing.T) {
	if api.ErrArg != 1 || api.ErrInclude != 40 {
		t.Error("errors")
	}
	toks := []int{api.Ident, api.Number, api.Quote, api.Str, api.Punct, api.Other, api.Newline}
	lines := []int{api.Text, api.If, api.Ifdef, api.Ifndef, api.Elif, api.Else, api.Endif, api.Define, api.Undef, api.Include, api.Error, api.Pragma, api.LineNo, api.Null, api.Unknown}
	for _, kinds := range [][]int{toks, lines} {
		for i, k := range kinds {
			if k != i+1 {
				t.Errorf("%d is %d", i+1, k)
			}
		}
	}
}

// R5: what is handed in stays as it was, also what stands behind its end.
func TestR5NothingIsChanged(t *testing.T) {
	whole := toks("#iAn%nzanaqn")
	was := slices.Clone(whole)
	l := direct.Lines(whole[:7])
	for i := range l {
		l[i].Toks = append(l[i].Toks, api.Tok{Kind: -1, Text: "spoilt"})
	}
	direct.Target(api.Line{Kind: api.Include, Toks: whole[8:10]})
	if !slices.Equal(whole, was) {
		t.Errorf("the list is now %v", whole)
	}
	in := toks("<aA>")
	direct.Target(api.Line{Kind: api.Include, Toks: in})
	if !slices.Equal(in, toks("<aA>")) {
		t.Errorf("the tokens are now %v", in)
	}
}

// R6: a call hangs on its arguments alone, so that an answer that is spoilt spoils no other, nor another line of its own.
func TestR6NothingIsKept(t *testing.T) {
	const s = "an#iann#zaa"
	l := toks(s)
	first := direct.Lines(l)
	for i := range first {
		for k := range first[i].Toks {
			first[i].Toks[k] = api.Tok{Kind: -1, Text: "spoilt"}
		}
		first[i].Toks = append(first[i].Toks, api.Tok{Kind: -2})
		if rest := told(s)[i+1:]; !sameLines(first[i+1:], rest) {
			t.Fatalf("behind line %d: %v", i, first[i+1:])
		}
		first[i] = api.Line{Kind: -1, First: -1}
	}
	direct.Target(api.Line{Kind: api.Include})
	if got := direct.Lines(toks(s)); !sameLines(got, told(s)) {
		t.Errorf("told again: %v", got)
	}
	if !slices.Equal(l, toks(s)) {
		t.Errorf("the list is now %v", l)
	}
}
