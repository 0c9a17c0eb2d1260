package macro

import "emend/api"

// va is the name that the arguments behind the last one of Params have.
const va = "__VA_ARGS__"

// wrong is thrown where tokens are no definition.
type wrong struct{ e api.Errno }

// must throws the error, if what a definition needs does not hold.
func must(holds bool, e api.Errno) {
	if !holds {
		panic(wrong{e})
	}
}

// reader has what was read of a definition, and the tokens that are left.
type reader struct {
	m    api.Macro
	left []api.Tok
	// params are the parameters' names: Param goes through all of them for each name that it is asked.
	params map[string]struct{}
}

// read is the macro of tokens; it throws what is wrong first.
func read(l []api.Tok) api.Macro {
	r := reader{left: l, params: map[string]struct{}{}}
	r.name()
	r.brackets()
	r.body()
	return r.m
}

func (r *reader) name() {
	must(len(r.left) > 0 && r.left[0].Kind == api.Ident, api.ErrName)
	r.m.Name = r.left[0].Text
	must(r.m.Name != "defined" && r.m.Name != va, api.ErrName)
	r.left = r.left[1:]
}

// brackets reads the list of parameters, if there is one; a bracket behind a blank is of the body.
func (r *reader) brackets() {
	if len(r.left) == 0 || r.left[0].Blank {
		return
	}
	must(sign(r.left[0], "("), api.ErrBlank)
	r.m.Func = true
	r.left = r.left[1:]
	if len(r.left) > 0 && sign(r.left[0], ")") {
		r.left = r.left[1:]
		return
	}
	r.list()
}

// list reads a list that is not empty, with the bracket that ends it.
func (r *reader) list() {
	for ended := false; !ended; {
		// A parameter, and the sign by which the list goes on or ends.
		must(len(r.left) >= 2, api.ErrParams)
		r.param(r.left[0])
		ended = sign(r.left[1], ")")
		more := sign(r.left[1], ",") && !r.m.Variadic
		must(ended || more, api.ErrParams)
		r.left = r.left[2:]
	}
}

func (r *reader) param(t api.Tok) {
	if sign(t, "...") {
		r.m.Variadic = true
		r.params[va] = struct{}{}
		return
	}
	must(t.Kind == api.Ident && t.Text != va && !r.known(t), api.ErrParams)
	r.params[t.Text] = struct{}{}
	r.m.Params = append(r.m.Params, t.Text)
}

// known tells whether a token is a parameter of those that were read.
func (r *reader) known(t api.Tok) bool {
	_, known := r.params[t.Text]
	return known && t.Kind == api.Ident
}

// body reads what is left; the errors are told in an order of their own, not in that of the tokens.
func (r *reader) body() {
	if len(r.left) == 0 {
		return
	}
	last := len(r.left) - 1
	must(!sign(r.left[0], "##") && !sign(r.left[last], "##"), api.ErrPaste)
	for i, t := range r.left {
		if r.m.Func && sign(t, "#") {
			must(i < last && r.known(r.left[i+1]), api.ErrHash)
		}
	}
	for _, t := range r.left {
		must(r.m.Variadic || t.Kind != api.Ident || t.Text != va, api.ErrVa)
	}
	r.m.Body = bare(r.left)
}

func sign(t api.Tok, text string) bool {
	return t.Kind == api.Punct && t.Text == text
}
