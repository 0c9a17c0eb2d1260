package expand_test

import (
	"maps"
	"slices"

	"emend/api"
	"emend/glue"
	"emend/macro"
)

// word is a token as the chapter's words have it: with its hide set, and whether it is a placemarker, or a `##` of a body that is still to go.
type word struct {
	api.Tok
	hides map[string]bool
	none  bool
	sign  bool
}

// teller tells what Expand must tell, by H2's to H4's words, one after the other, on lists that are written anew at each step.
type teller struct {
	ms    []api.Macro
	steps int
}

func told(ms []api.Macro, l []api.Tok) ([]api.Tok, api.Errno) {
	x := &teller{ms: ms}
	stay, e := x.expanded(withoutNewlines(l))
	return plain(stay), e
}

func withoutNewlines(l []api.Tok) []word {
	var out []word
	for i, t := range l {
		if t.Kind == api.Newline {
			continue
		}
		t.Blank = t.Blank || i > 0 && l[i-1].Kind == api.Newline
		out = append(out, word{Tok: t})
	}
	return out
}

func plain(l []word) []api.Tok {
	var out []api.Tok
	for _, t := range l {
		out = append(out, t.Tok)
	}
	return out
}

func punct(t api.Tok, text string) bool {
	return t.Kind == api.Punct && t.Text == text
}

// count is how many Puncts of a text stand among tokens.
func count(l []word, text string) int {
	n := 0
	for _, t := range l {
		if punct(t.Tok, text) {
			n++
		}
	}
	return n
}

func (x *teller) macroOf(name string) (api.Macro, bool) {
	i := slices.IndexFunc(x.ms, func(m api.Macro) bool { return m.Name == name })
	if i < 0 {
		return api.Macro{}, false
	}
	return x.ms[i], true
}

// expanded is H2.
func (x *teller) expanded(l []word) ([]word, api.Errno) {
	at := 0
	for at < len(l) {
		t := l[at]
		m, ok := x.macroOf(t.Text)
		invoked := at+1 < len(l) && punct(l[at+1].Tok, "(")
		if t.Kind != api.Ident || t.hides[t.Text] || !ok || m.Func && !invoked {
			at++
			continue
		}
		end := at
		if m.Func {
			if end = endOf(l, at+1); end < 0 {
				return nil, api.ErrArgs
			}
		}
		come, e := x.comes(m, t, l[at+1:end+1])
		if e != api.OK {
			return nil, e
		}
		behind := slices.Clone(l[end+1:])
		if len(come) > 0 {
			come[0].Blank = t.Blank
		} else if t.Blank && len(behind) > 0 {
			behind[0].Blank = true
		}
		l = slices.Concat(l[:at], come, behind)
	}
	if len(l) > 4000 {
		return nil, api.ErrSteps
	}
	return l, api.OK
}

// endOf is the place of an invocation's end; -1, if there is none.
func endOf(l []word, at int) int {
	for i := at; i < len(l); i++ {
		if punct(l[i].Tok, ")") && count(l[at:i+1], "(") == count(l[at:i+1], ")") {
			return i
		}
	}
	return -1
}

// parted tells the arguments of an invocation's tokens, both brackets among them, and the signs that part them.
func parted(in []word) (args [][]word, commas []word) {
	between := in[1 : len(in)-1]
	args = [][]word{nil}
	for i, t := range between {
		if punct(t.Tok, ",") && count(between[:i], "(") == count(between[:i], ")") {
			args = append(args, nil)
			commas = append(commas, t)
			continue
		}
		args[len(args)-1] = append(args[len(args)-1], t)
	}
	return args, commas
}

// comes is H3, but what it says of Blank in 6.
func (x *teller) comes(m api.Macro, t word, in []word) ([]word, api.Errno) {
	if x.steps >= 1000 {
		return nil, api.ErrSteps
	}
	x.steps++
	var args, full [][]word
	if m.Func {
		var ok bool
		if args, ok = counted(m, in); !ok {
			return nil, api.ErrCount
		}
		full = make([][]word, len(args))
		for p := range args {
			if !standsElsewhere(m, p) {
				continue
			}
			var e api.Errno
			if full[p], e = x.expanded(args[p]); e != api.OK {
				return nil, e
			}
		}
	}
	l, e := glued(placed(m, args, full))
	if e != api.OK {
		return nil, e
	}
	l = slices.DeleteFunc(l, func(t word) bool { return t.none })
	if len(l) > 4000 {
		return nil, api.ErrSteps
	}
	for i := range l {
		hides := map[string]bool{m.Name: true}
		maps.Copy(hides, l[i].hides)
		for name := range t.hides {
			if !m.Func || in[len(in)-1].hides[name] {
				hides[name] = true
			}
		}
		l[i].hides = hides
	}
	return l, api.OK
}

// counted is 1: an argument for each parameter, VA among them, or false.
func counted(m api.Macro, in []word) ([][]word, bool) {
	args, commas := parted(in)
	if len(m.Params) == 0 && len(args) == 1 && len(args[0]) == 0 {
		args = nil
	}
	if !m.Variadic || len(args) < len(m.Params) {
		return args, len(args) == len(m.Params)
	}
	var more []word
	for i := len(m.Params); i < len(args); i++ {
		if i > len(m.Params) {
			more = append(more, commas[i-1])
		}
		more = append(more, args[i]...)
	}
	return append(slices.Clone(args[:len(m.Params)]), more), true
}

// paramAt is which parameter stands at a place of a body, -1 if there is none.
func paramAt(m api.Macro, i int) int {
	if !m.Func || i < 0 || i >= len(m.Body) || m.Body[i].Kind != api.Ident {
		return -1
	}
	return macro.Param(m, m.Body[i].Text)
}

func signAt(m api.Macro, i int, text string) bool {
	return i >= 0 && i < len(m.Body) && punct(m.Body[i], text)
}

// besidePaste is whether a place stands right behind a `##` or right ahead of one.
func besidePaste(m api.Macro, i int) bool {
	return signAt(m, i-1, "##") || signAt(m, i+1, "##")
}

func standsElsewhere(m api.Macro, p int) bool {
	for i := range m.Body {
		if paramAt(m, i) == p && !signAt(m, i-1, "#") && !besidePaste(m, i) {
			return true
		}
	}
	return false
}

// placed is 3.
func placed(m api.Macro, args, full [][]word) []word {
	var out []word
	for i, t := range m.Body {
		p := paramAt(m, i)
		switch {
		case p >= 0 && signAt(m, i-1, "#"):
		case m.Func && signAt(m, i, "#"):
			s := glue.String(plain(args[paramAt(m, i+1)]))
			s.File, s.From, s.To, s.Blank = t.File, t.From, t.To, t.Blank
			out = append(out, word{Tok: s})
		case p >= 0 && besidePaste(m, i) && len(args[p]) == 0:
			out = append(out, word{Tok: api.Tok{Blank: t.Blank}, none: true})
		case p >= 0:
			come := slices.Clone(full[p])
			if besidePaste(m, i) {
				come = slices.Clone(args[p])
			}
			if len(come) > 0 {
				come[0].Blank = t.Blank
			}
			out = append(out, come...)
		default:
			out = append(out, word{Tok: t, sign: punct(t, "##")})
		}
	}
	return out
}

// glued is 4.
func glued(l []word) ([]word, api.Errno) {
	for i := 0; i < len(l); i++ {
		if !l[i].sign {
			continue
		}
		one, e := ofBoth(l[i-1], l[i+1])
		if e != api.OK {
			return nil, e
		}
		l = slices.Concat(l[:i-1], []word{one}, l[i+2:])
		i--
	}
	return l, api.OK
}

func ofBoth(a, b word) (word, api.Errno) {
	b.sign = false
	switch {
	case a.none:
		b.Blank = a.Blank
		return b, api.OK
	case b.none:
		return a, api.OK
	}
	t, e := glue.Paste(a.Tok, b.Tok)
	hides := map[string]bool{}
	for name := range a.hides {
		if b.hides[name] {
			hides[name] = true
		}
	}
	return word{Tok: t, hides: hides}, e
}
