package ifexpr_test

import (
	"strconv"
	"strings"
	"testing"

	"emend/api"
	"emend/ifexpr"
	"emend/pptok"
)

const least = "(-9223372036854775807 - 1)"

func TestExamples(t *testing.T) {
	values{"1 + 2 * 3": 7, "(1 + 2) * 3": 9, "-7 / 2": -3, "-7 % 2": -1, "1 || 1 / 0": 1, "0 ? 1/0 : 5": 5, "X == 0 && 'a' == 97": 1, "0x10u": 16, "1 ? 2 : 0 ? 3 : 4": 2}.hold(t)
	fail(t, api.ErrZero, "1 / 0")
	fail(t, api.ErrNumber, "08")
	fail(t, api.ErrShift, "1 << 64")
	fail(t, api.ErrExpr, "1 +", "")
}

func TestI4Atoms(t *testing.T) {
	values{"0": 0, "7": 7, "017": 15, "0x1F": 31, "10ull": 10, "'a'": 97, "'\\''": 39, "'\\0'": 0, "X": 0, "if": 0, "defined": 0, "true": 0, "_": 0, "(5)": 5, "(X)": 0, "((('b')))": 98, "9223372036854775807": 1<<63 - 1}.hold(t)
}

func TestI4Newlines(t *testing.T) {
	values{"\n5": 5, "5\n": 5, "\n\n5\n\n": 5, "1\n+\n2": 3, "(\n1\n)\n": 1, "-\n1": -1, "1\n?\n2\n:\n3": 2, "\n1 ||\n\n1 / 0": 1}.hold(t)
	fail(t, api.ErrExpr, "\n", "\n\n\n", "1\n2", "1 +\n", "<\n<", "1 <\n< 2", "(\n)", "(1\n")
	if n, e := ifexpr.Eval(toks("1 newline+ newline + newline+ 2")); n != 3 || e != api.OK {
		t.Errorf("Newlines of other texts: %d, %d", n, e)
	}
}

func TestI4EachSign(t *testing.T) {
	values{
		"0 || 0": 0, "0 || 2": 1, "2 || 0": 1, "2 || 3": 1, "-1 || 0": 1, "0 && 0": 0, "0 && 2": 0, "2 && 0": 0, "2 && 3": 1, "2 && -1": 1,
		"12 | 10": 14, "-16 | 5": -11, "12 ^ 10": 6, "-1 ^ 5": -6, "12 & 10": 8, "-4 & 7": 4,
		"1 == 1": 1, "1 == 2": 0, "-1 == -1": 1, "1 != 1": 0, "1 != 2": 1, "-1 != 1": 1,
		"1 < 2": 1, "2 < 2": 0, "3 < 2": 0, "-1 < 0": 1, "1 > 2": 0, "2 > 2": 0, "3 > 2": 1, "0 > -1": 1, "1 <= 2": 1, "2 <= 2": 1, "3 <= 2": 0, "-2 <= -1": 1, "1 >= 2": 0, "2 >= 2": 1, "3 >= 2": 1, "-1 >= -2": 1,
		"3 << 2": 12, "-3 << 2": -12, "12 >> 2": 3, "13 >> 2": 3, "-13 >> 2": -4, "-1 >> 1": -1,
		"5 + 3": 8, "5 + -3": 2, "5 - 3": 2, "3 - 5": -2, "3 - -5": 8, "5 * 3": 15, "-5 * 3": -15, "-5 * -3": 15,
		"7 / 2": 3, "-7 / 2": -3, "7 / -2": -3, "-7 / -2": 3, "1 / 2": 0, "-1 / 2": 0, "7 % 2": 1, "-7 % 2": -1, "7 % -2": 1, "-7 % -2": -1, "6 % 3": 0, "-6 % 3": 0, "2 % 7": 2, "-2 % 7": -2,
		"+5": 5, "-5": -5, "-0": 0, "!0": 1, "!5": 0, "!-1": 0, "~0": -1, "~5": -6, "~-1": 0, "+X": 0, "-'a'": -97,
		"1 ? 5 : 6": 5, "0 ? 5 : 6": 6, "-1 ? 5 : 6": 5, "2 ? 0 : 6": 0,
	}.hold(t)
}

// Of signs of one level the left one comes first.
func TestI4FromTheLeft(t *testing.T) {
	values{
		"10 - 5 - 3": 2, "10 - 5 + 3": 8, "10 + 5 - 3 - 2 + 1": 11, "100 / 10 / 5": 2, "100 / 10 * 5": 50, "100 * 3 / 7": 42, "100 / 7 * 3": 42, "100 % 7 * 3": 6, "100 * 3 % 7": 6, "7 % 4 % 2": 1, "20 / 6 % 2": 1, "20 % 6 / 2": 1,
		"1 << 2 << 3": 32, "256 >> 2 >> 3": 8, "256 >> 4 << 1": 32, "1 << 4 >> 2": 4, "3 > 2 > 1": 0, "3 > 2 >= 1": 1, "1 < 2 < 1": 0, "-3 < -2 < -1": 0, "5 <= 5 < 2": 1, "2 == 2 == 2": 0, "2 == 2 == 1": 1, "2 != 2 == 0": 1, "0 == 2 != 0": 0, "1 != 1 != 1": 1,
		"7 ^ 2 ^ 1": 4, "8 | 4 | 1": 13, "14 & 7 & 12": 4, "0 || 0 || 3": 1, "0 || 0 || 0": 0, "1 && 2 && 3": 1, "1 && 2 && 0": 0, "1 && 0 && 1": 0,
	}.hold(t)
	if n, e := ifexpr.Eval(pptok.Tokens(0, strings.Repeat("1 - 2 * ", 30)+"1")); n != toldOf(t, strings.Repeat("1 - 2 * ", 30)+"1") || e != api.OK {
		t.Errorf("of many: %d, %d", n, e)
	}
}

// toldOf is what the chapter's words make of a text that is right.
func toldOf(t *testing.T, s string) int64 {
	t.Helper()
	n, e := told(pptok.Tokens(0, s))
	if e != api.OK {
		t.Fatalf("%q: %d", s, e)
	}
	return n
}

// Each two signs beside each other, in both orders: the later rule's one stands within the other one's.
func TestI4Levels(t *testing.T) {
	values{
		"1 || 1 && 0": 1, "0 && 1 || 1": 1, "1 || 0 | 0": 1, "1 && 2 | 1": 1, "0 && 0 | 1": 0, "1 | 0 && 0": 0, "1 | 2 ^ 3": 1, "3 ^ 2 | 1": 1, "3 ^ 2 | 2": 3, "2 | 3 ^ 3": 2, "5 ^ 4 & 1": 5, "1 & 4 ^ 5": 5, "2 & 2 == 2": 0, "1 & 2 == 2": 1, "2 == 2 & 2": 0, "1 == 2 < 3": 1, "0 == 3 < 2": 1, "2 < 3 == 1": 1, "1 < 1 << 1": 1, "1 << 1 > 1": 1, "1 << 2 < 3": 0, "1 << 1 + 1": 4, "1 + 1 << 1": 4, "16 >> 1 + 1": 4, "16 >> 2 - 1": 8, "1 + 2 * 3": 7, "2 * 3 + 1": 7, "7 - 6 / 3": 5, "7 - 7 % 4": 4, "10 % 4 - 3": -1, "-2 * -3": 6, "-2 + 1": -1, "!1 + 1": 1, "!0 == 1": 1, "~1 + 1": -1, "-1 >> 1": -1, "!2 * 3": 0, "~0 & 5": 5, "-7 % 4": -3,
		"0 || 0 ? 1 : 2": 2, "1 ? 0 || 0 : 2": 0, "0 ? 1 : 0 || 5": 1, "1 ? 2 : 3 + 4": 2, "0 ? 2 : 3 + 4": 7, "1 + 1 ? 5 : 6": 5, "1 && 0 ? 5 : 6": 6, "0 ? 1 : 2 && 0": 0,
		"(1 || 1) && 0": 0, "(1 | 2) ^ 3": 0, "(1 + 2) * 3": 9, "1 << (1 + 1)": 4, "(2 & 2) == 2": 1, "-(2 + 1)": -3, "!(1 + 1)": 0, "2 * (3 + 1)": 8, "(7 - 6) / 3": 0, "1 == (2 < 3)": 1, "2 - (3 - 4)": 3, "100 / (10 / 5)": 50, "(1 ? 2 : 3) + 4": 6,
		"1 || 2 && 3 | 4 ^ 5 & 6 == 7 < 8 << 9 + 10 * 11": 1, "0 || 0 && 3 | 4 ^ 5 & 6 == 7 < 8 << 9 + 10 * 11": 0,
		"2 * 3 + 4 << 1 < 21 == 1 & 3 ^ 2 | 4 && 5 || 6": 1, "1 + 2 * 3 - 4 / 2 % 2 << 1 >> 1": 7,
	}.hold(t)
}

func TestI4SignsAhead(t *testing.T) {
	values{"- -3": 3, "- - -3": -3, "-+3": -3, "+-3": -3, "+ +3": 3, "!!5": 1, "!!0": 0, "!!!5": 0, "~~5": 5, "~-5": 4, "-~5": 6, "!~0": 0, "!-0": 1, "~!0": -2, "-!0": -1, "+!5": 0, "5 - -3": 8, "5 - - -3": 2, "5 + +3": 8, "2 * -3": -6, "2 * !0": 2, "6 / -~1": 3, "1 << ~-2": 2, "-(-3)": 3, "-(!(~(+0)))": 0, "1 - -1 - - -1": 1, "1 || !1 / 0": 1}.hold(t)
	// Signs that are longer than these are others.
	fail(t, api.ErrExpr, "--3", "++3", "5--3", "5++3", "3--", "& 3", "* 3", "5 ! 3", "5 ~ 3", "!", "-", "1 - -", "! + ~ -")
}

func TestI4Choices(t *testing.T) {
	values{
		"1 ? 2 : 3": 2, "0 ? 2 : 3": 3,
		// One as the last part.
		"1 ? 2 : 1 ? 3 : 4": 2, "1 ? 2 : 0 ? 3 : 4": 2, "0 ? 2 : 1 ? 3 : 4": 3, "0 ? 2 : 0 ? 3 : 4": 4, "0 ? 1 : 0 ? 2 : 0 ? 3 : 4": 4, "0 ? 1 : 0 ? 2 : 1 ? 3 : 4": 3,
		// One as the second part.
		"1 ? 1 ? 2 : 3 : 4": 2, "1 ? 0 ? 2 : 3 : 4": 3, "0 ? 1 ? 2 : 3 : 4": 4, "1 ? 1 ? 1 ? 2 : 3 : 4 : 5": 2, "1 ? 0 ? 2 : 0 ? 3 : 6 : 4": 6,
		// One as the first part, in brackets.
		"(1 ? 0 : 1) ? 2 : 3": 3, "(0 ? 0 : 1) ? 2 : 3": 2, "(1 ? 0 : 1) + 1 ? 2 : 3": 2,
		// Ones as all parts.
		"(1 ? 1 : 0) ? 0 ? 2 : 3 : 1 ? 4 : 5": 3, "(1 ? 0 : 1) ? 0 ? 2 : 3 : 1 ? 4 : 5": 4,
		"1 ? 2 : 3 ? 4 : 5": 2, "1 ? 1 || 0 : 0": 1, "0 ? 1 : 2 || 0": 1, "1 + 0 * 5 ? 2 + 3 : 4 + 5": 5,
	}.hold(t)
	fail(t, api.ErrExpr, "?", ":", "1 ?", "1 ? 2", "1 ? 2 :", "1 ? : 3", "? 2 : 3", "1 : 2", "1 : 2 ? 3", "1 ? 2 : 3 : 4", "1 ? 2 ? 3 : 4", "1 ? (2 : 3)", "(1 ? 2) : 3", "1 ? 2 : ? 3 : 4", "1 ? 2, 3 : 4", "1 ?: 3", "1 ? 2 : 3 ?", "1 ? 2 : 3 ? 4", "1 ? 2 3", "1 ?? 2 : 3")
}

func TestI4None(t *testing.T) {
	fail(t, api.ErrExpr,
		"", "()", "( )", "(", ")", "((", "))", "(1", "1)", "((1)", "(1))", "(1 + 2", "1 + 2)", ")1(", "(1)(2)", "(1) 2", "2 (1)", "X(1)", "X()", "1()", "-()", "1 + ()", "() + 1", "(1 +) 2", "1 (+ 2)",
		"1 2", "1 X", "X 1", "X Y", "1 'a'", "'a' 'b'", "1 + 2 3", "1 2 + 3", "defined X", "defined(X)",
		"+", "1 +", "* 1", "/ 2", "1 *", "1 * / 2", "1 + * 2", "|| 1", "1 ||", "1 || || 1", "1 && ", "< 1", "1 <", "== 1", "1 ==", "<< 1", "1 >>", "1 < > 2", "1 = = 2",
		"1 = 2", "X = 1", "X += 1", "X++", "++X", "X--", "1, 2", "(1, 2)", ",", "1 # 2", "#", "##", "1 ## 2", "1;", ";", "[1]", "X[1]", "{1}", "X.Y", "X->Y", "...", "1 ... 2", "1 <<= 2", "1 -> 2",
		"\"s\"", "\"1\"", "1 + \"s\"", "\"\"", "@", "1 @", "$", "\\", "`", "1 \\", "'", "'a", "\"", "1 + '", "''", "1 /* x", "\xff", "1 // 2 \n +",
		"1 ! 2", "1 ~ 2", "1 not 2", "1 and 2", "(int) 1", "sizeof X",
	)
	for _, s := range []string{"string1", "punct1", "punctX", "none1", "other( 1 other)", "other( 1 )", "( 1 other)", "below( 1 )", "1 ident+ 2", "1 string+ 2", "1 eight+ 2", "1 great+ 2", "ident+ 1", "great+ 1", "string+ 1", "ident( 1 )", "1 number+ 2"} {
		if n, e := ifexpr.Eval(toks(s)); n != 0 || e != api.ErrExpr {
			t.Errorf("%q: %d, %d", s, n, e)
		}
	}
	for _, s := range []string{"number'a", "number+", "numberX", "quote1"} {
		if n, e := ifexpr.Eval(toks(s)); n != 0 || e != api.ErrNumber {
			t.Errorf("%q: %d, %d", s, n, e)
		}
	}
	for _, s := range []string{"ident+", "ident(", "ident1", "ident+ + ident(", "( ident( )"} {
		if n, e := ifexpr.Eval(toks(s)); n != 0 || e != api.OK {
			t.Errorf("%q: %d, %d", s, n, e)
		}
	}
}

// nest is a text within others, some times.
func nest(ahead, within, behind string, times int) string {
	return strings.Repeat(ahead, times) + within + strings.Repeat(behind, times)
}

// What stands 60 deep is an expression, what stands 61 deep is none.
func TestI4Deep(t *testing.T) {
	for i, text := range []func(n int) string{
		func(n int) string { return nest("(", "1", ")", n) },
		func(n int) string { return nest("(0 || ", "1", " + 0)", n) },
		func(n int) string { return nest("+ ", "1", "", n) },
		func(n int) string { return nest("- ", "X", "", n) + " == 0" },
		func(n int) string { return nest("! ", "1", "", n) + " || 1" },
		func(n int) string { return nest("~ ", "1", "", n) + " ? 1 : 1" },
		func(n int) string { return nest("1 ? ", "1", " : 2", n) },
		func(n int) string { return nest("0 ? 2 : ", "1", "", n) },
		// One within another.
		func(n int) string { return nest("+ ", "(1)", "", n-1) },
		func(n int) string { return nest("(", "+1", ")", n-1) },
		func(n int) string { return nest("(", "1 ? 1 : 2", ")", n-1) },
		func(n int) string { return nest("(", "0 ? 2 : 1", ")", n-1) },
		func(n int) string { return nest("1 ? ", "(1)", " : 2", n-1) },
		func(n int) string { return nest("1 ? ", "+1", " : 2", n-1) },
		func(n int) string { return nest("0 ? 2 : ", "(1)", "", n-1) },
		func(n int) string { return nest("0 ? 2 : ", "+1", "", n-1) },
		func(n int) string { return nest("1 ? 0 ? 2 : ", nest("+ ", "1", "", n%2), " : 2", n/2) },
		func(n int) string {
			return nest("(", nest("1 ? ", nest("0 ? 2 : ", nest("+ ", "1", "", n-45), "", 15), " : 2", 15), ")", 15)
		},
		// Operands stand no deeper than the signs between them.
		func(n int) string { return "1 || " + nest("(", "1 / 0", ")", n) },
		func(n int) string { return "2 - " + nest("+ ", "1", "", n) },
		func(n int) string { return nest("(", "1", ")", n) + " * " + nest("+ ", "1", "", n) },
		// What is asked stands no deeper than its choice.
		func(n int) string { return nest("(", "1", ")", n) + " ? 1 : 2" },
		func(n int) string { return "(" + nest("(", "1", ")", n-1) + " ? 1 : 2)" },
		func(n int) string { return "1 ? " + nest("(", "1", ")", n-1) + " : 2" },
		func(n int) string { return "0 ? 2 : " + nest("(", "1", ")", n-1) },
		func(n int) string { return "1 ? 1 : " + nest("(", "1", ")", n-1) },
	} {
		for _, n := range []int{58, 59, 60} {
			if got, e := ifexpr.Eval(pptok.Tokens(0, text(n))); got != 1 || e != api.OK {
				t.Errorf("%d, %d deep: %d, %d", i, n, got, e)
			}
		}
		for _, n := range []int{61, 62, 100, 1000} {
			if got, e := ifexpr.Eval(pptok.Tokens(0, text(n))); got != 0 || e != api.ErrExpr {
				t.Errorf("%d, %d deep: %d, %d", i, n, got, e)
			}
		}
	}
	// What stands side by side stands no deeper, however much it is.
	values{"1" + strings.Repeat(" + 1", 1000): 1001, "1" + strings.Repeat(" || (1)", 1000): 1, strings.Repeat("(1 ? 2 : 3) - - ", 100) + "0": 200, "0" + strings.Repeat(" - (((-1)))", 500): 500}.hold(t)
	// That it is too deep is told ahead of what is wrong with numbers.
	fail(t, api.ErrExpr, "08 + "+nest("(", "1", ")", 61), nest("- ", "08", "", 61), "1 / 0 + "+nest("(", "1", ")", 61))
	fail(t, api.ErrNumber, "1 || "+nest("(", "08", ")", 60))
}

func TestI4WrapsRound(t *testing.T) {
	values{
		"9223372036854775807 + 1": -1 << 63, "9223372036854775807 + 9223372036854775807": -2, least: -1 << 63, least + " - 1": 1<<63 - 1, "-" + least: -1 << 63, "-9223372036854775807 - 2": 1<<63 - 1, least + " + " + least: 0, "0 - " + least: -1 << 63,
		"9223372036854775807 * 2": -2, "9223372036854775807 * 9223372036854775807": 1, least + " * -1": -1 << 63, least + " * 2": 0, "4294967296 * 4294967296": 0, "3037000500 * 3037000500": -9223372036709301616, least + " * " + least: 0,
		least + " / -1": -1 << 63, least + " % -1": 0, least + " / 1": -1 << 63, least + " / 2": -1 << 62, least + " % 10": -8, least + " / " + least: 1, "9223372036854775807 / " + least: 0, "9223372036854775807 % " + least: 1<<63 - 1, "-1 / " + least: 0, "~" + least: 1<<63 - 1, "!" + least: 0,
		"0x7fffffffffffffffu + 1u": -1 << 63, "-1 < 0u": 1, "0u - 1 < 0": 1,
	}.hold(t)
}

func TestI4Shifts(t *testing.T) {
	values{
		"5 << 0": 5, "5 >> 0": 5, "-5 << 0": -5, "-5 >> 0": -5, "1 << 62": 1 << 62, "1 << 63": -1 << 63, "2 << 63": 0, "3 << 63": -1 << 63, "-1 << 63": -1 << 63, "-1 << 1": -2, "0x7fffffffffffffff << 1": -2, "5 << 62": 1 << 62, "0 << 63": 0,
		"1 >> 63": 0, "9223372036854775807 >> 62": 1, "9223372036854775807 >> 63": 0, "-1 >> 63": -1, "-2 >> 63": -1, "-2 >> 1": -1, "-3 >> 1": -2, least + " >> 63": -1, least + " >> 62": -2, least + " << 1": 0, "0 >> 63": 0,
	}.hold(t)
	for _, by := range []string{"64", "65", "128", "1000", "-1", "-64", "9223372036854775807", least, "4294967296", "(1 << 32)", "256"} {
		for _, a := range []string{"0", "1", "-1", least} {
			fail(t, api.ErrShift, a+" << "+by, a+" >> "+by)
		}
	}
}

// What is not asked is not worked out.
func TestI5NotAsked(t *testing.T) {
	for _, wrong := range []string{"1 / 0", "1 % 0", "1 << 64", "1 >> -1", "-(1 / 0)", "(1 << 64) + 1", "0 / (0 && 1)", "1 / 0 / 0"} {
		values{
			"1 || " + wrong: 1, "2 || " + wrong + " || 0": 1, "0 || 1 || " + wrong: 1, "0 && " + wrong: 0, "0 && 1 && " + wrong: 0, "1 && 0 && " + wrong: 0, "0 && " + wrong + " && 1": 0, "0 && " + wrong + " || 1": 1, "1 || 0 && " + wrong: 1, "1 || " + wrong + " && " + wrong: 1,
			"1 ? 5 : " + wrong: 5, "0 ? " + wrong + " : 6": 6, "0 ? " + wrong + " : 1 ? 7 : " + wrong: 7, "1 ? 0 ? " + wrong + " : 8 : " + wrong: 8, "(1 || " + wrong + ") + 1": 2, "!(0 && " + wrong + ")": 1, "1 || (0 || (" + wrong + "))": 1, "0 && (1 ? " + wrong + " : " + wrong + ")": 0, "1 || (" + wrong + " ? 1 : 0)": 1,
		}.hold(t)
		e := api.ErrZero
		if strings.Contains(wrong, "<<") || strings.Contains(wrong, ">>") {
			e = api.ErrShift
		}
		fail(t, e, wrong, "0 || "+wrong, "1 && "+wrong, wrong+" || 1", wrong+" && 0", "1 && 1 && "+wrong, "0 || 0 || "+wrong, "1 ? "+wrong+" : 5", "0 ? 5 : "+wrong, "("+wrong+") ? 1 : 2", "0 | ("+wrong+")", "0 & ("+wrong+")", "0 * ("+wrong+")", "!("+wrong+")", "0 && 0 || "+wrong, "(1 || 0) && "+wrong, "0 == ("+wrong+")", "("+wrong+") - 0", "0 && 1 ? 1 : "+wrong)
	}
	// A number that is none is told also where it is not asked.
	for _, none := range []string{"08", "1.0", "'ab'", "0x", "9223372036854775808", "1uu", "'\\x'", "1 / 08", "-08", "(0 && 08)"} {
		fail(t, api.ErrNumber, none, "1 || "+none, "0 && "+none, "1 ? 5 : "+none, "0 ? "+none+" : 5", "1 || (0 && "+none+")", none+" || 1", "1 || 2 || "+none)
	}
}

func TestI5WhichFirst(t *testing.T) {
	fail(t, api.ErrZero, "1 / 0 + (1 << 64)", "1 / 0 << 64", "1 / 0 || 1 << 64", "(1 / 0) << (1 << 64)", "1 << 1 / 0", "1 << (1 / 0)", "1 / 0 / (1 << 64)", "(1 % 0) - (1 >> 64)", "1 / 0 ? 1 << 64 : 1 >> 64", "1 ? 1 / 0 : 1 << 64", "0 || 1 / 0 || 1 << 64", "2 * (1 / 0) * (1 << 64)", "(1 << 63) / 0", "1 + 1 / 0 == 1 << 64")
	fail(t, api.ErrShift, "(1 << 64) + 1 / 0", "(1 << 64) / 0", "1 << 64 || 1 / 0", "1 / (1 << 64)", "1 << 64 << 1 / 0", "(1 >> -1) % 0", "(1 << 64) ? 1 / 0 : 1 / 0", "0 ? 1 / 0 : 1 << 64", "1 << 64 + 0 * 1", "1 && 1 << 64 && 1 / 0", "0 && 1 / 0 || 1 << 64", "(1 << 64) * (1 / 0)")
	fail(t, api.ErrNumber, "1 / 0 + 08", "1 << 64 || 08", "08 + 1 / 0", "1 / 08", "1 << 08", "1 / 0 + (1 << 64) + 'ab'", "1 / 0 ? 1 << 64 : 1.5", "08 + 'ab'")
	fail(t, api.ErrExpr, "1 / 0 +", "1 << 64)", "08 +", "08 09", "(08", "08 ? 1", "'ab' 1", "1 / 0 08", "1.5 @", "1.5 = 1", "08 + \"s\"", ") 08", "+ 08 *", "1 / 0 1 << 64", "1 || 08 +")
}

// All short lists, and all of two and of three operands, against I4's and I5's words.
func TestI4AllShortLists(t *testing.T) {
	t.Parallel()
	came := map[api.Errno]int{}
	check := func(l []api.Tok) {
		n, e := ifexpr.Eval(l)
		if want, f := told(l); n != want || e != f {
			t.Fatalf("%q: %d, %d, not %d, %d", shown(l), n, e, want, f)
		}
		came[e]++
	}
	eachList(toks("|| && | ^ & == != < > <= >= << >> + - * / % ! ~ ? : ( ) 0 1 2 X 08 'a' 'ab' , = # @ \"s\" newline"), 3, check)
	eachList(toks("1 0 - ( ) ? : || /"), 6, check)
	eachList(toks("64 ! << && ? : 08 newline"), 6, check)
	eachList(toks("( 3 ) * other( string1 ident+ other)"), 5, check)
	for _, e := range []api.Errno{api.OK, api.ErrExpr, api.ErrNumber, api.ErrZero, api.ErrShift} {
		if came[e] < 30 {
			t.Errorf("%d came %d times", e, came[e])
		}
	}
}

var between = strings.Fields("|| && | ^ & == != < > <= >= << >> + - * / %")

func TestI4AllOfTwo(t *testing.T) {
	t.Parallel()
	operands := strings.Fields("0 1 -1 2 -2 7 -7 62 63 64 -64 1000 9223372036854775807 -9223372036854775807 (~0x7fffffffffffffff) 'a' X 08 (1/0) (1<<64)")
	for _, a := range operands {
		for _, b := range operands {
			for _, sign := range between {
				same(t, a+" "+sign+" "+b)
				same(t, "-"+a+sign+" !"+b+sign+" ~"+a)
			}
			same(t, a+" ? "+b+" : "+a)
		}
	}
}

func TestI4AllOfThree(t *testing.T) {
	t.Parallel()
	operands := strings.Fields("0 1 2 -3 5 70")
	for _, first := range between {
		for _, second := range between {
			for i := range operands {
				for j := range operands {
					for k := range operands {
						same(t, operands[i]+" "+first+" "+operands[j]+" "+second+" "+operands[k])
					}
				}
			}
		}
	}
}

// Signs of all levels in turn, rising, falling, and mixed by a short rule.
func TestI4AllOfMany(t *testing.T) {
	t.Parallel()
	operands := strings.Fields("1 0 3 !2 -4 (5) 7 ~0 2 (0-1)")
	for step := range 17 {
		for begin := range len(between) {
			s := operands[begin%len(operands)]
			for i := range 9 {
				s += " " + between[(begin+i*(step+1)+i*i*step)%len(between)] + " " + operands[(step+i*7)%len(operands)]
			}
			same(t, s)
			same(t, s+" ? "+strconv.Itoa(step)+" : "+s)
		}
	}
}

// I6: brackets around an expression, or one of its operands, change nothing.
func TestI6Brackets(t *testing.T) {
	t.Parallel()
	for _, sign := range between {
		for _, a := range []string{"0", "1", "-2", "1 + 2", "1 || 0", "1 ? 2 : 3", "1 / 0", "1 << 64", "08", "1 +", ""} {
			for _, b := range []string{"0", "3", "2 * 2", "0 && 1", "0 ? 0 : 1", "0 / 0", "1 )"} {
				alike(t, "("+a+") "+sign+" ("+b+")", "(("+a+") "+sign+" (("+b+")))")
				alike(t, a+" "+sign+" "+b, "("+a+" "+sign+" "+b+")")
			}
		}
	}
	// Of two, what stands in brackets is one.
	for _, first := range between {
		for _, second := range between {
			same(t, "(9 "+first+" 4) "+second+" 2")
			same(t, "9 "+first+" (4 "+second+" 2)")
			same(t, "-(9 "+first+" 4) "+second+" !(2 "+second+" 1)")
		}
	}
}

// alike checks that two texts come to the same.
func alike(t *testing.T, a, b string) {
	t.Helper()
	n, e := ifexpr.Eval(pptok.Tokens(0, a))
	if m, f := ifexpr.Eval(pptok.Tokens(1, b)); n != m || e != f {
		t.Errorf("%q: %d, %d; %q: %d, %d", a, n, e, b, m, f)
	}
}

// same holds what Eval tells of a text against what the chapter's words tell.
func same(t *testing.T, s string) {
	t.Helper()
	l := pptok.Tokens(0, s)
	n, e := ifexpr.Eval(l)
	if want, f := told(l); n != want || e != f {
		t.Fatalf("%q: %d, %d, not %d, %d", s, n, e, want, f)
	}
}
