package ifexpr_test

import (
	"math/big"
	"regexp"
	"slices"

	"emend/api"
)

// came is what a part of an expression comes to, by itself.
type came struct {
	n *big.Int
	e api.Errno
}

// rules are I4's between a choice and a sign ahead, in its order.
var rules = [][]string{{"||"}, {"&&"}, {"|"}, {"^"}, {"&"}, {"==", "!="}, {"<", ">", "<=", ">="}, {"<<", ">>"}, {"+", "-"}, {"*", "/", "%"}}

var (
	numbers  = regexp.MustCompile(`^(?:0[xX]([0-9a-fA-F]+)|(0[0-7]*)|([1-9][0-9]*))(?:|[uU]|[lL]|ll|LL|[uU](?:[lL]|ll|LL)|(?:[lL]|ll|LL)[uU])$`)
	quotes   = regexp.MustCompile(`^(?s:'(?:([^\\])|\\([ntr0abfv\\'"?]))')$`)
	escapes  = map[string]int64{"n": 10, "t": 9, "r": 13, "0": 0, "a": 7, "b": 8, "f": 12, "v": 11, "\\": 92, "'": 39, "\"": 34, "?": 63}
	greatest = new(big.Int).SetUint64(1<<63 - 1)
)

// toldNumber tells what Number must tell, by I1's words.
func toldNumber(s string) (int64, api.Errno) {
	m := numbers.FindStringSubmatch(s)
	if m == nil {
		return 0, api.ErrNumber
	}
	for i, base := range []int{16, 8, 10} {
		if m[i+1] == "" {
			continue
		}
		n, _ := new(big.Int).SetString(m[i+1], base)
		if n.Cmp(greatest) <= 0 {
			return n.Int64(), api.OK
		}
	}
	return 0, api.ErrNumber
}

// toldQuote tells what Quote must tell, by I2's words, of a text without bytes above 127.
func toldQuote(s string) (int64, api.Errno) {
	m := quotes.FindStringSubmatch(s)
	switch {
	case m == nil:
		return 0, api.ErrNumber
	case m[2] != "":
		return escapes[m[2]], api.OK
	}
	return int64(m[1][0]), api.OK
}

// teller tells what Eval must tell, by I4's and I5's words: each rule is tried at each place where it may be parted.
type teller struct {
	l []api.Tok
	// known is what parts of a long list came to: from where, to where, by which rule, how deep. (Of a short one they are asked again sooner than found.)
	known map[[4]int]part
}

// part is what comes of tokens by a rule, if they keep to it.
type part struct {
	came
	ok bool
}

func told(l []api.Tok) (int64, api.Errno) {
	x := teller{l: slices.DeleteFunc(slices.Clone(l), func(t api.Tok) bool { return t.Kind == api.Newline })}
	if len(x.l) > 8 {
		x.known = map[[4]int]part{}
	}
	got := x.choice(0, len(x.l), 0)
	if !got.ok {
		return 0, api.ErrExpr
	}
	for _, t := range x.l {
		if _, e := toldAtom(t); e != api.OK {
			return 0, e
		}
	}
	if got.e != api.OK {
		return 0, got.e
	}
	return wrapped(got.n).Int64(), api.OK
}

// wrapped is what an int64 keeps of a number.
func wrapped(n *big.Int) *big.Int {
	all := new(big.Int).Lsh(big.NewInt(1), 64)
	n = new(big.Int).Mod(n, all)
	if n.Cmp(greatest) > 0 {
		n.Sub(n, all)
	}
	return n
}

func is(t api.Tok, text string) bool {
	return t.Kind == api.Punct && t.Text == text
}

func (x *teller) choice(from, to, depth int) part {
	if depth > 60 {
		return part{}
	}
	if got := x.rule(from, to, 0, depth); got.ok {
		return got
	}
	for i := from; i < to; i++ {
		for j := i + 1; j < to && is(x.l[i], "?"); j++ {
			if !is(x.l[j], ":") {
				continue
			}
			asks, then, other := x.rule(from, i, 0, depth), x.choice(i+1, j, depth+1), x.choice(j+1, to, depth+1)
			switch {
			case !asks.ok || !then.ok || !other.ok:
			case asks.e != api.OK:
				return asks
			case asks.n.Sign() != 0:
				return then
			default:
				return other
			}
		}
	}
	return part{}
}

func (x *teller) rule(from, to, rule, depth int) part {
	if x.known == nil {
		return x.parted(from, to, rule, depth)
	}
	key := [4]int{from, to, rule, depth}
	got, ok := x.known[key]
	if !ok {
		got = x.parted(from, to, rule, depth)
		x.known[key] = got
	}
	return got
}

func (x *teller) parted(from, to, rule, depth int) part {
	if rule == len(rules) {
		return x.ahead(from, to, depth)
	}
	if got := x.rule(from, to, rule+1, depth); got.ok {
		return got
	}
	for i := from; i < to; i++ {
		if x.l[i].Kind != api.Punct || !slices.Contains(rules[rule], x.l[i].Text) {
			continue
		}
		a := x.rule(from, i, rule, depth)
		if !a.ok {
			continue
		}
		if b := x.rule(i+1, to, rule+1, depth); b.ok {
			return part{toldBoth(x.l[i].Text, a.came, b.came), true}
		}
	}
	return part{}
}

func (x *teller) ahead(from, to, depth int) part {
	if from == to {
		return part{}
	}
	t := x.l[from]
	switch {
	case to-from == 1:
		n, e := toldAtom(t)
		return part{came{big.NewInt(n), e}, t.Kind == api.Number || t.Kind == api.Quote || t.Kind == api.Ident}
	case is(t, "(") && is(x.l[to-1], ")"):
		return x.choice(from+1, to-1, depth+1)
	case t.Kind != api.Punct || !slices.Contains([]string{"+", "-", "!", "~"}, t.Text) || depth == 60:
		return part{}
	}
	got := x.ahead(from+1, to, depth+1)
	if !got.ok || got.e != api.OK {
		return got
	}
	switch t.Text {
	case "-":
		got.n = wrapped(new(big.Int).Neg(got.n))
	case "~":
		got.n = new(big.Int).Not(got.n)
	case "!":
		got.n = oneIf(got.n.Sign() == 0)
	}
	return got
}

// toldAtom is what a token alone comes to; those that are no numbers come to 0.
func toldAtom(t api.Tok) (int64, api.Errno) {
	switch t.Kind {
	case api.Number:
		return toldNumber(t.Text)
	case api.Quote:
		return toldQuote(t.Text)
	}
	return 0, api.OK
}

func oneIf(holds bool) *big.Int {
	if holds {
		return big.NewInt(1)
	}
	return big.NewInt(0)
}

// toldBoth is what two come to with a sign between.
func toldBoth(sign string, a, b came) came {
	switch {
	case a.e != api.OK:
		return a
	case sign == "||" && a.n.Sign() != 0:
		return came{n: oneIf(true)}
	case sign == "&&" && a.n.Sign() == 0:
		return came{n: oneIf(false)}
	case b.e != api.OK:
		return b
	case (sign == "/" || sign == "%") && b.n.Sign() == 0:
		return came{e: api.ErrZero}
	case (sign == "<<" || sign == ">>") && (b.n.Sign() < 0 || b.n.Cmp(big.NewInt(63)) > 0):
		return came{e: api.ErrShift}
	}
	return came{n: wrapped(worked(sign, a.n, b.n))}
}

func worked(sign string, a, b *big.Int) *big.Int {
	n := new(big.Int)
	switch sign {
	case "||", "&&":
		return oneIf(b.Sign() != 0)
	case "|":
		return n.Or(a, b)
	case "^":
		return n.Xor(a, b)
	case "&":
		return n.And(a, b)
	case "==":
		return oneIf(a.Cmp(b) == 0)
	case "!=":
		return oneIf(a.Cmp(b) != 0)
	case "<":
		return oneIf(a.Cmp(b) < 0)
	case ">":
		return oneIf(a.Cmp(b) > 0)
	case "<=":
		return oneIf(a.Cmp(b) <= 0)
	case ">=":
		return oneIf(a.Cmp(b) >= 0)
	case "<<":
		return n.Lsh(a, uint(b.Int64()))
	case ">>":
		return n.Rsh(a, uint(b.Int64()))
	case "+":
		return n.Add(a, b)
	case "-":
		return n.Sub(a, b)
	case "*":
		return n.Mul(a, b)
	case "/":
		return n.Quo(a, b)
	case "%":
		return n.Rem(a, b)
	}
	panic("no sign: " + sign)
}

var (
	whole  = regexp.MustCompile(`d[dXY]|d\([dXY]\)`)
	lonely = regexp.MustCompile(`d`)
)

// toldDefined tells what Defined must tell of tokens, by I3's words: they are written as letters, so that a regular expression finds what is asked.
func toldDefined(l []api.Tok, names []string) ([]api.Tok, api.Errno) {
	letters := ""
	for _, t := range l {
		letter := "."
		switch {
		case t.Kind == api.Ident && t.Text == "defined":
			letter = "d"
		case t.Kind == api.Ident && t.Text == "X":
			letter = "X"
		case t.Kind == api.Ident:
			letter = "Y"
		case is(t, "("), is(t, ")"):
			letter = t.Text
		}
		letters += letter
	}
	if lonely.MatchString(whole.ReplaceAllString(letters, "")) {
		return nil, api.ErrExpr
	}
	var out []api.Tok
	done := 0
	for _, at := range whole.FindAllStringIndex(letters, -1) {
		out = append(out, l[done:at[0]]...)
		t := l[at[0]]
		asked := l[at[0]+1]
		if at[1]-at[0] == 4 {
			asked = l[at[0]+2]
		}
		text := "0"
		if slices.Contains(names, asked.Text) {
			text = "1"
		}
		out = append(out, api.Tok{Kind: api.Number, Text: text, File: t.File, From: t.From, To: t.To, Blank: t.Blank})
		done = at[1]
	}
	return append(out, l[done:]...), api.OK
}
