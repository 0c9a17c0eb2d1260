package expand

import (
	"cmp"

	"emend/api"
)

// token is a token with its hide set.
type token struct {
	api.Tok
	hidden *names
	// empty is whether it is a placemarker, which a token is not for its text being empty.
	empty bool
}

// names is a hide set: bit i is the name of the macro whose plan has the number i, so that there is room for all that are replaced, however many there are. Tokens share sets, so that none is changed; nil is the empty one.
type names [(api.MaxSteps + 63) / 64]uint64

func (n *names) has(i int) bool {
	return n != nil && n[i/64]>>(i%64)&1 == 1
}

// with has one name more.
func (n *names) with(i int) *names {
	out := names{}
	if n != nil {
		out = *n
	}
	out[i/64] |= 1 << (i % 64)
	return &out
}

// either has the names that are in one of two or in both.
func (n *names) either(other *names) *names {
	if n == nil || other == nil {
		return cmp.Or(n, other)
	}
	out := *n
	for i := range other {
		out[i] |= other[i]
	}
	return &out
}

// both has the names that are in each of two.
func (n *names) both(other *names) *names {
	if n == nil || other == nil {
		return nil
	}
	out := *n
	for i := range other {
		out[i] &= other[i]
	}
	return &out
}

// hide adds names to tokens' hide sets.
func hide(l []token, more *names) {
	// Many tokens share a set, for which this is worked out once.
	sets := map[*names]*names{}
	for i := range l {
		own := l[i].hidden
		if sets[own] == nil {
			sets[own] = own.either(more)
		}
		l[i].hidden = sets[own]
	}
}

// lined are tokens as those of one line: without Newlines, nothing hidden.
func lined(l []api.Tok) []token {
	out := make([]token, 0, len(l))
	parted := false
	for _, t := range l {
		if t.Kind == api.Newline {
			parted = true
			continue
		}
		t.Blank = t.Blank || parted
		out = append(out, token{Tok: t})
		parted = false
	}
	return out
}

// bare are tokens without their hide sets.
func bare(l []token) []api.Tok {
	out := make([]api.Tok, 0, len(l))
	for i := range l {
		out = append(out, l[i].Tok)
	}
	return out
}

func sign(t api.Tok, text string) bool {
	return t.Kind == api.Punct && t.Text == text
}
