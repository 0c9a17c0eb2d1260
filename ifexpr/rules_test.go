package ifexpr_test

import (
	"slices"
	"strconv"
	"strings"
	"testing"

	"emend/api"
	"emend/ifexpr"
	"emend/pptok"
)

// The numbers that this layer tells, and its limit, are the document's.
func TestNumbers(t *testing.T) {
	if api.OK != 0 || api.ErrExpr != 90 || api.ErrNumber != 91 || api.ErrZero != 92 || api.ErrShift != 93 {
		t.Error("errors")
	}
	if api.MaxNest != 60 {
		t.Error("limits")
	}
	for i, k := range []int{api.Ident, api.Number, api.Quote, api.Str, api.Punct, api.Other, api.Newline} {
		if k != i+1 {
			t.Errorf("%d is %d", i+1, k)
		}
	}
}

// R1: very many tokens, and very long ones, are read as few are, in little more steps than they have bytes.
func TestR1Many(t *testing.T) {
	t.Parallel()
	const many = 1 << 16
	values{
		"0" + strings.Repeat(" + 1", many):                            many,
		"0" + strings.Repeat(" - 1 * 2", many):                        -2 * many,
		"1" + strings.Repeat(" || 1 / 0", many):                       1,
		"0" + strings.Repeat(" && 1 / 0", many):                       0,
		"1" + strings.Repeat(" == 1", many):                           1,
		"0" + strings.Repeat(" | (1 ? 2 : 1 / 0)", many):              2,
		strings.Repeat("\n", many) + "5" + strings.Repeat("\n", many): 5,
	}.hold(t)
	for _, s := range []string{"(", ")", "- ", "! ", "1 ? ", "1 ? 2 : ", "(1 + ", "1 ", "1 + ", "+ (", "\"s\"", "\n", "? ", ": "} {
		fail(t, api.ErrExpr, strings.Repeat(s, many))
	}
	fail(t, api.ErrExpr, nest("(", "1", ")", many), nest("1 ? ", "1", " : 2", many))
	noughts := strings.Repeat("0", many)
	for s, want := range map[string]int64{noughts: 0, noughts + "17": 15, "0x" + noughts + "1f": 31, noughts + "777777777777777777777lu": 1<<63 - 1} {
		if n, e := ifexpr.Number(s); n != want || e != api.OK {
			t.Errorf("%d bytes: %d, %d", len(s), n, e)
		}
	}
	for _, s := range []string{"1" + noughts, "0x1" + noughts, "01" + noughts, noughts + "8", noughts + "1000000000000000000000", "1" + strings.Repeat("u", many), "1" + strings.Repeat("l", many), "0x" + strings.Repeat("x", many)} {
		if n, e := ifexpr.Number(s); n != 0 || e != api.ErrNumber {
			t.Errorf("%d bytes: %d, %d", len(s), n, e)
		}
		if n, e := ifexpr.Quote("'" + s + "'"); n != 0 || e != api.ErrNumber {
			t.Errorf("%d bytes in quotes: %d, %d", len(s), n, e)
		}
	}
}

// R1: very many names, and very many that are asked for.
func TestR1ManyNames(t *testing.T) {
	t.Parallel()
	const many = 1 << 17
	var names []string
	var l []api.Tok
	for i := range many {
		names = append(names, "N"+strconv.Itoa(2*i))
		l = append(l, api.Tok{Kind: api.Ident, Text: "defined", From: i}, api.Tok{Kind: api.Ident, Text: "N" + strconv.Itoa(many-1-i)})
	}
	got, e := ifexpr.Defined(l, names)
	if len(got) != many || e != api.OK {
		t.Fatalf("%d, %d", len(got), e)
	}
	for i, x := range got {
		if x != (api.Tok{Kind: api.Number, Text: strconv.Itoa(i % 2), From: i}) {
			t.Fatalf("%d: %+v", i, x)
		}
	}
	if got, e := ifexpr.Defined(append(l, l[0]), names); len(got) > 0 || e != api.ErrExpr {
		t.Errorf("with one at the end: %d, %d", len(got), e)
	}
}

// R1, R3: with an error there is nothing else, whatever the tokens are, of kinds that no text has, too.
func TestR3NothingWithAnError(t *testing.T) {
	t.Parallel()
	var all []api.Tok
	for _, kind := range []int{0, api.Ident, api.Number, api.Quote, api.Str, api.Punct, api.Other, api.Newline, 8, -1, 256 + api.Punct, 1<<32 + api.Number} {
		for _, text := range []string{"", "1", "(", ")", "-", "'", "defined"} {
			all = append(all, api.Tok{Kind: kind, Text: text})
		}
	}
	came := map[api.Errno]int{}
	eachList(all, 3, func(l []api.Tok) {
		n, e := ifexpr.Eval(l)
		if want, f := told(l); n != want || e != f || e != api.OK && n != 0 {
			t.Fatalf("Eval of %+v: %d, %d, not %d, %d", l, n, e, want, f)
		}
		came[e]++
		if got, e := ifexpr.Defined(l, []string{"1", ""}); e != api.OK && (e != api.ErrExpr || len(got) > 0) {
			t.Fatalf("Defined of %+v: %v, %d", l, got, e)
		}
	})
	for _, e := range []api.Errno{api.OK, api.ErrExpr, api.ErrNumber} {
		if came[e] < 20 {
			t.Errorf("%d came %d times", e, came[e])
		}
	}
}

// R4: a nil list and an empty one are the same.
func TestR4NoLists(t *testing.T) {
	for _, none := range [][]api.Tok{nil, {}, toks("1 2")[:0]} {
		if n, e := ifexpr.Eval(none); n != 0 || e != api.ErrExpr {
			t.Errorf("Eval: %d, %d", n, e)
		}
		for _, names := range [][]string{nil, {}, {"X"}} {
			if got, e := ifexpr.Defined(none, names); len(got) > 0 || e != api.OK {
				t.Errorf("Defined: %v, %d", got, e)
			}
		}
	}
	for _, names := range [][]string{nil, {}, slices.Clone([]string{"X"})[:0]} {
		if got, e := ifexpr.Defined(toks("defined X"), names); shown(got) != "0" || e != api.OK {
			t.Errorf("of no names: %q, %d", shown(got), e)
		}
	}
}

// R5: what is handed in stays as it was, also what stands behind its end; what is answered is its receiver's own.
func TestR5NothingIsChanged(t *testing.T) {
	for _, s := range []string{"newline 1 + newline defined X", "defined ( X ) + 2 newline", "( 1 + 08 ) newline * 2", "1 ? defined Y : defined", "- ( newline - 1 ) / 0", "X Y Z"} {
		whole, names := toks(s), []string{"Y", "X", "Z"}
		for n := range whole {
			ifexpr.Eval(whole[:n])
			ifexpr.Eval(whole[n:])
			for _, l := range [][]api.Tok{whole[:n], whole[n:]} {
				got, _ := ifexpr.Defined(l, names[:2])
				_ = append(got, api.Tok{Text: "spoilt"})
				for i := range got {
					got[i] = api.Tok{Text: "spoilt"}
				}
			}
		}
		if !slices.Equal(whole, toks(s)) {
			t.Errorf("the list %q is now %+v", s, whole)
		}
		if !slices.Equal(names, []string{"Y", "X", "Z"}) {
			t.Errorf("the names are now %q", names)
		}
	}
}

// R6: a call hangs on its arguments alone; an error, and lists that are changed behind the call, leave nothing behind.
func TestR6NothingIsKept(t *testing.T) {
	for range 3 {
		l, names := pptok.Tokens(0, "defined X + defined(Y) * 2 + X"), []string{"X"}
		got, e := ifexpr.Defined(l, names)
		names[0] = "Y"
		if shown(got) != "1 + 0 * 2 + X" || e != api.OK {
			t.Errorf("Defined: %q, %d", shown(got), e)
		}
		if n, e := ifexpr.Eval(got); n != 1 || e != api.OK {
			t.Errorf("Eval: %d, %d", n, e)
		}
		if again, e := ifexpr.Defined(l, names); shown(again) != "0 + 1 * 2 + X" || shown(got) != "1 + 0 * 2 + X" || e != api.OK {
			t.Errorf("of another name: %q, %q, %d", shown(again), shown(got), e)
		}
		for i := range got {
			got[i].Text = "spoilt"
		}
		fail(t, api.ErrExpr, "1 +", "(1", strings.Repeat("(", 100))
		fail(t, api.ErrNumber, "08")
		fail(t, api.ErrZero, "1 / 0")
		ifexpr.Number("9223372036854775808")
		ifexpr.Quote("'ab'")
		ifexpr.Defined(toks("defined"), names)
	}
}

// What is asked by names and worked out behind that is what a condition says.
func TestWhole(t *testing.T) {
	for s, want := range map[string]int64{
		"defined A": 1, "!defined B": 1, "defined A && !defined B": 1, "defined(A) || defined(C)": 1, "defined B ? 1 / 0 : 7": 7, "(defined A) + (defined(A)) + defined B": 2, "-defined A": -1, "A": 0, "defined A << 3 | defined C": 9, "defined(B) == 0 && 'A' == 65": 1, "defined \\\nA": 1,
	} {
		l, e := ifexpr.Defined(pptok.Tokens(0, s), []string{"A", "C"})
		if e != api.OK {
			t.Errorf("Defined of %q: %d", s, e)
		}
		if n, e := ifexpr.Eval(l); n != want || e != api.OK {
			t.Errorf("%q: %d, %d, not %d", s, n, e, want)
		}
	}
}
