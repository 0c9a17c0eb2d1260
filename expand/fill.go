package expand

import (
	"emend/api"
	"emend/glue"
)

// filled is what a body comes to with the arguments in it.
func (p *plan) filled(args []argument) ([]token, api.Errno) {
	var f filling
	for _, x := range p.pieces {
		if e := f.piece(x, args); e != api.OK {
			return nil, e
		}
	}
	if last := len(f.out) - 1; last >= 0 && f.out[last].empty {
		f.out = f.out[:last]
	}
	if len(f.out) > api.MaxToks {
		return nil, api.ErrSteps
	}
	return f.out, api.OK
}

// filling is what has come of a body so far. A placemarker stands there only as the last one, as long as a `##` may take it.
type filling struct {
	out []token
	// gluing is whether a `##` waits for the token behind it.
	gluing bool
}

func (f *filling) piece(p piece, args []argument) api.Errno {
	switch p.way {
	case quotedArg:
		t := args[p.param].quoted
		t.File, t.From, t.To, t.Blank = p.File, p.From, p.To, p.Blank
		return f.add(token{Tok: t})
	case rawArg:
		if len(args[p.param].raw) == 0 {
			return f.add(token{Tok: api.Tok{Blank: p.Blank}, empty: true})
		}
		return f.list(args[p.param].raw, p.Blank)
	case fullArg:
		return f.list(args[p.param].full, p.Blank)
	case pasting:
		if !f.gluing {
			f.gluing = true
			return api.OK
		}
	}
	// A `##` right behind another one is the token that that one takes.
	return f.add(token{Tok: p.Tok})
}

// list adds an argument's tokens, of which the first one has the parameter's Blank.
func (f *filling) list(l []token, blank bool) api.Errno {
	for i := 0; i < len(l); i++ {
		if i > 0 && f.tooMany() {
			// Between the first one and the last one there is no `##` that could be wrong.
			i = len(l) - 1
		}
		t := l[i]
		if i == 0 {
			t.Blank = blank
		}
		if e := f.add(t); e != api.OK {
			return e
		}
	}
	return api.OK
}

// add lays a token behind the last one, or glues it there.
func (f *filling) add(t token) api.Errno {
	last := len(f.out) - 1
	switch {
	case last >= 0 && f.gluing:
		f.gluing = false
		one, e := pasted(f.out[last], t)
		f.out[last] = one
		return e
	case last >= 0 && f.out[last].empty, f.tooMany():
		f.out[last] = t
	default:
		f.out = append(f.out, t)
	}
	return api.OK
}

// tooMany is whether more than MaxToks will be left in any case. That is told only when all signs were fine, and what they ask for is the last token alone: so no more tokens need be kept.
func (f *filling) tooMany() bool {
	return len(f.out) > api.MaxToks+1
}

// pasted is one token of two.
func pasted(a, b token) (token, api.Errno) {
	if b.empty {
		return a, api.OK
	}
	if a.empty {
		b.Blank = a.Blank
		return b, api.OK
	}
	one, e := glue.Paste(a.Tok, b.Tok)
	return token{Tok: one, hidden: a.hidden.both(b.hidden)}, e
}
