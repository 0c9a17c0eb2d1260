package ifexpr

import "emend/api"

// expr is what was read: it is asked what it comes to.
type expr interface {
	value() (int64, api.Errno)
}

// atom is a number by itself.
type atom int64

func (x atom) value() (int64, api.Errno) {
	return int64(x), api.OK
}

// ahead is an operand with a sign ahead of it.
type ahead struct {
	sign string
	of   expr
}

func (x ahead) value() (int64, api.Errno) {
	n, e := x.of.value()
	if e != api.OK {
		return 0, e
	}
	switch x.sign {
	case "-":
		return -n, api.OK
	case "!":
		return truth(n == 0), api.OK
	case "~":
		return ^n, api.OK
	}
	return n, api.OK
}

// chain is operands with signs of one level between them. It is no tree of twos, since that would be as deep as it is long.
type chain struct {
	first expr
	more  []link
}

// link is an operand, and the sign by which it is joined to what stands ahead.
type link struct {
	sign string
	of   expr
}

func (x chain) value() (int64, api.Errno) {
	n, e := x.first.value()
	for at := 0; at < len(x.more) && e == api.OK; at++ {
		n, e = x.more[at].joined(n)
	}
	return n, e
}

// joined is what comes of a number that stands ahead; the operand is not asked where the number alone says it.
func (x link) joined(a int64) (int64, api.Errno) {
	switch {
	case x.sign == "||" && a != 0:
		return 1, api.OK
	case x.sign == "&&" && a == 0:
		return 0, api.OK
	}
	b, e := x.of.value()
	if e != api.OK {
		return 0, e
	}
	switch x.sign {
	case "||", "&&":
		return truth(b != 0), api.OK
	case "==", "!=", "<", ">", "<=", ">=":
		return truth(compared(x.sign, a, b)), api.OK
	case "<<", ">>":
		return shifted(x.sign, a, b)
	case "/", "%":
		return divided(x.sign, a, b)
	}
	return counted(x.sign, a, b), api.OK
}

// choice is one of two, as what is asked tells.
type choice struct {
	asks, then, other expr
}

func (x choice) value() (int64, api.Errno) {
	n, e := x.asks.value()
	switch {
	case e != api.OK:
		return 0, e
	case n != 0:
		return x.then.value()
	}
	return x.other.value()
}

func truth(holds bool) int64 {
	if holds {
		return 1
	}
	return 0
}

func compared(sign string, a, b int64) bool {
	switch sign {
	case "==":
		return a == b
	case "!=":
		return a != b
	case "<":
		return a < b
	case ">":
		return a > b
	case "<=":
		return a <= b
	}
	return a >= b
}

func shifted(sign string, a, by int64) (int64, api.Errno) {
	if by < 0 || by > 63 {
		return 0, api.ErrShift
	}
	if sign == "<<" {
		return a << by, api.OK
	}
	return a >> by, api.OK
}

func divided(sign string, a, by int64) (int64, api.Errno) {
	if by == 0 {
		return 0, api.ErrZero
	}
	if sign == "/" {
		return a / by, api.OK
	}
	return a % by, api.OK
}

// counted is what comes of the signs with which nothing can be wrong.
func counted(sign string, a, b int64) int64 {
	switch sign {
	case "|":
		return a | b
	case "^":
		return a ^ b
	case "&":
		return a & b
	case "+":
		return a + b
	case "-":
		return a - b
	}
	return a * b
}
