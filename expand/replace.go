package expand

import (
	"emend/api"
	"emend/glue"
)

// known is a macro, and its plan once it was replaced.
type known struct {
	api.Macro
	plan *plan
}

// expansion is what one Expand keeps.
type expansion struct {
	macros map[string]*known
	plans  int
	steps  int
}

func begun(ms []api.Macro) *expansion {
	x := &expansion{macros: make(map[string]*known, len(ms))}
	for _, m := range ms {
		if x.macros[m.Name] == nil {
			x.macros[m.Name] = &known{Macro: m}
		}
	}
	return x
}

// run is what stays of a list.
func (x *expansion) run(l []token) ([]token, api.Errno) {
	var stay []token
	var left rest
	left.put(l, false)
	for t, ok := left.next(); ok; t, ok = left.next() {
		k := x.macroOf(t)
		if k == nil || k.Func && !left.opens() {
			// That there are too many is told only when nothing else is wrong; one too many is enough to know it by.
			if len(stay) <= api.MaxToks {
				stay = append(stay, t)
			}
			continue
		}
		come, e := x.replace(k, t, &left)
		if e != api.OK {
			return nil, e
		}
		left.put(come, t.Blank)
	}
	if len(stay) > api.MaxToks {
		return nil, api.ErrSteps
	}
	return stay, api.OK
}

// macroOf is the macro of a token that its hide set lets be replaced, or nil.
func (x *expansion) macroOf(t token) *known {
	if t.Kind != api.Ident {
		return nil
	}
	k := x.macros[t.Text]
	if k == nil || k.plan != nil && t.hidden.has(k.plan.number) {
		return nil
	}
	return k
}

// replace is what comes of a token, and of the invocation that it begins, whose other tokens are taken.
func (x *expansion) replace(k *known, t token, left *rest) ([]token, api.Errno) {
	hides := t.hidden
	var in []token
	var at []int
	if k.Func {
		if at = cuts(left.all()); at == nil {
			return nil, api.ErrArgs
		}
		in = left.take(at[len(at)-1] + 1)
		hides = hides.both(in[len(in)-1].hidden)
	}
	if e := x.step(k); e != api.OK {
		return nil, e
	}
	args, e := x.arguments(k, in, at)
	if e != api.OK {
		return nil, e
	}
	come, e := k.plan.filled(args)
	if e != api.OK {
		return nil, e
	}
	hide(come, hides.with(k.plan.number))
	if len(come) > 0 {
		come[0].Blank = t.Blank
	}
	return come, api.OK
}

// step counts a token that is replaced; the first one of a macro makes its plan.
func (x *expansion) step(k *known) api.Errno {
	if x.steps == api.MaxSteps {
		return api.ErrSteps
	}
	x.steps++
	if k.plan == nil {
		k.plan = planOf(k.Macro, x.plans)
		x.plans++
	}
	return api.OK
}

// argument is one as it is, and what the body asks of it: expanded, or as a string.
type argument struct {
	raw, full []token
	quoted    api.Tok
}

// arguments are those of an invocation, one for each parameter.
func (x *expansion) arguments(k *known, in []token, at []int) ([]argument, api.Errno) {
	raws, e := k.shared(in, at)
	if e != api.OK {
		return nil, e
	}
	out := make([]argument, len(raws))
	for i, raw := range raws {
		out[i].raw = raw
		if k.plan.uses[i].full {
			if out[i].full, e = x.run(raw); e != api.OK {
				return nil, e
			}
		}
		if k.plan.uses[i].quoted {
			out[i].quoted = glue.String(bare(raw))
		}
	}
	return out, api.OK
}

// shared tells what stands between an invocation's signs as the arguments of the macro's parameters; a macro that is not Func has none.
func (k *known) shared(in []token, at []int) ([][]token, api.Errno) {
	if !k.Func {
		return nil, api.OK
	}
	n, asked := len(at)-1, len(k.Params)
	if asked == 0 && len(in) == 2 {
		n = 0
	}
	if n < asked || n > asked && !k.Variadic {
		return nil, api.ErrCount
	}
	var out [][]token
	for i := range asked {
		out = append(out, in[at[i]+1:at[i+1]])
	}
	if k.Variadic {
		var more []token
		if n > asked {
			more = in[at[asked]+1 : len(in)-1]
		}
		out = append(out, more)
	}
	return out, api.OK
}
