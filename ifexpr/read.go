package ifexpr

import "emend/api"

// reader has the tokens that are left of an expression, and what was found wrong.
type reader struct {
	left []api.Tok
	// broken is whether the tokens are no expression.
	broken bool
	// number is what is wrong with a number; it is told only of tokens that are an expression.
	number api.Errno
}

// read is the tree of tokens.
func read(l []api.Tok) (expr, api.Errno) {
	r := reader{left: inLine(l)}
	x := r.expression(0)
	if r.broken || len(r.left) > 0 {
		return nil, api.ErrExpr
	}
	if r.number != api.OK {
		return nil, r.number
	}
	return x, api.OK
}

// inLine are the tokens without Newlines.
func inLine(l []api.Tok) []api.Tok {
	var out []api.Tok
	for _, t := range l {
		if t.Kind != api.Newline {
			out = append(out, t)
		}
	}
	return out
}

// expression reads a choice, or what may be asked in one.
func (r *reader) expression(depth int) expr {
	asks := r.joined(loosest, depth)
	if !r.takes("?") {
		return asks
	}
	then := r.expression(depth + 1)
	r.must(":")
	return choice{asks, then, r.expression(depth + 1)}
}

// joined reads operands of tighter signs, with signs of that level between them.
func (r *reader) joined(level, depth int) expr {
	if level > tightest {
		return r.operand(depth)
	}
	first := r.joined(level+1, depth)
	var more []link
	for len(r.left) > 0 && levelOf(r.left[0]) == level {
		between := r.left[0].Text
		r.left = r.left[1:]
		more = append(more, link{between, r.joined(level+1, depth)})
	}
	if len(more) == 0 {
		return first
	}
	return chain{first, more}
}

// operand reads what no sign parts. Whatever is read begins with one, so that here alone it is asked how deep it stands.
func (r *reader) operand(depth int) expr {
	if len(r.left) == 0 || depth > api.MaxNest {
		return r.breaks()
	}
	t := r.left[0]
	r.left = r.left[1:]
	switch t.Kind {
	case api.Number:
		return r.atom(Number(t.Text))
	case api.Quote:
		return r.atom(Quote(t.Text))
	case api.Ident:
		return atom(0)
	case api.Punct:
		return r.behind(t.Text, depth+1)
	}
	return r.breaks()
}

// behind reads what stands behind a sign with which an operand begins.
func (r *reader) behind(sign string, depth int) expr {
	switch sign {
	case "+", "-", "!", "~":
		return ahead{sign, r.operand(depth)}
	case "(":
		x := r.expression(depth)
		r.must(")")
		return x
	}
	return r.breaks()
}

func (r *reader) atom(n int64, e api.Errno) expr {
	if e != api.OK {
		r.number = e
	}
	return atom(n)
}

func (r *reader) takes(text string) bool {
	if len(r.left) == 0 || !sign(r.left[0], text) {
		return false
	}
	r.left = r.left[1:]
	return true
}

func (r *reader) must(text string) {
	if !r.takes(text) {
		r.breaks()
	}
}

// breaks leaves no tokens, so that all that is still being read comes to its end.
func (r *reader) breaks() expr {
	r.broken, r.left = true, nil
	return atom(0)
}

// The levels of signs between two: those of a higher one stand within those of a lower one.
const (
	loosest  = 1
	tightest = 10
)

// levelOf is the level of a sign; 0, if a token stands between no two.
func levelOf(t api.Tok) int {
	if t.Kind != api.Punct {
		return 0
	}
	switch t.Text {
	case "||":
		return loosest
	case "&&":
		return 2
	case "|":
		return 3
	case "^":
		return 4
	case "&":
		return 5
	case "==", "!=":
		return 6
	case "<", ">", "<=", ">=":
		return 7
	case "<<", ">>":
		return 8
	case "+", "-":
		return 9
	case "*", "/", "%":
		return tightest
	}
	return 0
}
