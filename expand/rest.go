package expand

import (
	"iter"

	"emend/api"
)

// rest is what is still to be looked at: lists, none of them empty, of which the last one comes first. Tokens in them are not changed, since arguments share them.
type rest struct {
	lists [][]token
	// blank is whether the next token has Blank, whatever its list says.
	blank bool
}

// put lays a list ahead of the others; if it is empty, its Blank is the next token's behind it.
func (r *rest) put(l []token, blank bool) {
	if len(l) == 0 {
		r.blank = blank
		return
	}
	r.lists = append(r.lists, l)
}

// next takes one token.
func (r *rest) next() (token, bool) {
	if len(r.lists) == 0 {
		return token{}, false
	}
	t := r.lists[len(r.lists)-1][0]
	t.Blank = t.Blank || r.blank
	r.blank = false
	r.drop(1)
	return t, true
}

// take takes the next n tokens; there must be as many.
func (r *rest) take(n int) []token {
	// Where they stand in one list they are not copied: of arguments within arguments, each would be copied as often as it is deep.
	if top := r.lists[len(r.lists)-1]; n <= len(top) {
		r.drop(n)
		return top[:n]
	}
	out := make([]token, 0, n)
	for len(out) < n {
		top := r.lists[len(r.lists)-1]
		some := min(n-len(out), len(top))
		out = append(out, top[:some]...)
		r.drop(some)
	}
	return out
}

// drop leaves the first n tokens of the first list out.
func (r *rest) drop(n int) {
	last := len(r.lists) - 1
	r.lists[last] = r.lists[last][n:]
	if len(r.lists[last]) == 0 {
		r.lists = r.lists[:last]
	}
}

// opens tells whether the next token is the bracket that begins an invocation.
func (r *rest) opens() bool {
	return len(r.lists) > 0 && sign(r.lists[len(r.lists)-1][0].Tok, "(")
}

// all tells the tokens, without taking them.
func (r *rest) all() iter.Seq[api.Tok] {
	return func(yield func(api.Tok) bool) {
		for i := len(r.lists) - 1; i >= 0; i-- {
			for k := range r.lists[i] {
				if !yield(r.lists[i][k].Tok) {
					return
				}
			}
		}
	}
}

// cuts are the places of the signs between which an invocation's arguments stand, its brackets the first one and the last one; nil, if tokens begin with no invocation that has an end.
func cuts(l iter.Seq[api.Tok]) []int {
	var out []int
	at, open := 0, 0
	for t := range l {
		switch {
		case sign(t, "("):
			open++
			if open == 1 {
				out = append(out, at)
			}
		case open == 0:
			return nil
		case sign(t, ")"):
			open--
			if open == 0 {
				return append(out, at)
			}
		case open == 1 && sign(t, ","):
			out = append(out, at)
		}
		at++
	}
	return nil
}
