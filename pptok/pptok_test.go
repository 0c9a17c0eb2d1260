package pptok_test

import (
	"math"
	"slices"
	"strings"
	"testing"

	"emend/api"
	"emend/pptok"
	"emend/splice"
)

// example is a text, and its tokens as shown tells them.
type example struct{ text, want string }

func hold(t *testing.T, l []example) {
	t.Helper()
	for _, x := range l {
		if got := shown(pptok.Tokens(0, x.text)); got != x.want {
			t.Errorf("Tokens of %q: %q, not %q", x.text, got, x.want)
		}
	}
}

func TestNumbersOfKinds(t *testing.T) {
	for i, kind := range []int{api.Ident, api.Number, api.Quote, api.Str, api.Punct, api.Other, api.Newline} {
		if kind != i+1 {
			t.Errorf("kind %d is %d", i+1, kind)
		}
	}
}

func TestC1ChapterExamples(t *testing.T) {
	hold(t, []example{
		{"a+++b", "[1a][5++][5+][1b]"},
		{"x /* y */ . 5.e+3.f", "[1x] [5.] [25.e+3.f]"},
		{"\"a\\\"b\" 'c' ''", "[4\"a\\\"b\"] [3'c'] [6'][6']"},
		{"\"a\n", "[6\"][1a][7\n]"},
		{"/* x", "[5/][5*] [1x]"},
		{"in\\\nt", "[1int]"},
	})
	want := []api.Tok{{Kind: api.Ident, Text: "int", From: 0, To: 5}}
	if got := pptok.Tokens(0, "in\\\nt"); !slices.Equal(got, want) {
		t.Errorf("a name with a pair: %v", got)
	}
}

func TestC1Blanks(t *testing.T) {
	hold(t, []example{
		{"", ""}, {" \t\v\f\r", ""}, {"ab", "[1ab]"},
		{" a", " [1a]"}, {"\ta", " [1a]"}, {"\va", " [1a]"}, {"\fa", " [1a]"}, {"\ra", " [1a]"},
		{"a b", "[1a] [1b]"}, {"a\tb", "[1a] [1b]"}, {"a\vb", "[1a] [1b]"}, {"a\fb", "[1a] [1b]"}, {"a\rb", "[1a] [1b]"},
		{"a \t\v\f\r", "[1a]"}, {"a \n b", "[1a] [7\n] [1b]"}, {"a\n\nb", "[1a][7\n][7\n][1b]"}, {"a\r\n", "[1a] [7\n]"},
		{"a\x00b", "[1a][6\x00][1b]"}, {"a\bb", "[1a][6\b][1b]"}, {"a\x0eb", "[1a][6\x0e][1b]"}, {"a\x1fb", "[1a][6\x1f][1b]"},
		{"a\u00a0b", "[1a][6\xc2][6\xa0][1b]"}, {"a\u0085b", "[1a][6\xc2][6\x85][1b]"},
	})
}

func TestC1Comments(t *testing.T) {
	hold(t, []example{
		{"/*x*/", ""}, {"//x", ""}, {"//", ""}, {"//\n", " [7\n]"}, {"/**/", ""},
		{"/*x*/a", " [1a]"}, {"a/*x*/b", "[1a] [1b]"}, {"a/*x*/", "[1a]"}, {"a /*x*/ /*y*/ b", "[1a] [1b]"},
		{"//x\na", " [7\n][1a]"}, {"a//b\nc", "[1a] [7\n][1c]"}, {"a//b", "[1a]"}, {"a //b//c\n//d\n", "[1a] [7\n] [7\n]"},
		{"a/*\n\n*/b", "[1a] [1b]"}, {"/*//*/a", " [1a]"}, {"///*\na*/", " [7\n][1a][5*][5/]"}, {"a//b*/\n", "[1a] [7\n]"},
		{"/***/a", " [1a]"}, {"/****/a", " [1a]"}, {"/*/*/a", " [1a]"}, {"/**/*/", " [5*][5/]"}, {"/*a*/b*/", " [1b][5*][5/]"},
		{"/*", "[5/][5*]"}, {"/*/", "[5/][5*][5/]"}, {"/*/a", "[5/][5*][5/][1a]"}, {"/* *", "[5/][5*] [5*]"}, {"/* * /", "[5/][5*] [5*] [5/]"},
		{"/* //a", "[5/][5*]"}, {"/*=", "[5/][5*=]"}, {"/* \"\n/*", "[5/][5*] [6\"][7\n][5/][5*]"},
		{"a/ /b", "[1a][5/] [5/][1b]"}, {"/ *a*/", "[5/] [5*][1a][5*][5/]"}, {"a/", "[1a][5/]"}, {"/=/**/=", "[5/=] [5=]"},
		{"\"/*\"*/\"", "[4\"/*\"][5*][5/][6\"]"}, {"\"//\"a", "[4\"//\"][1a]"}, {"'//'a", "[3'//'][1a]"}, {"/*\"*/\"", " [6\"]"}, {"//'\n'", " [7\n][6']"},
	})
}

func TestC1Pairs(t *testing.T) {
	for _, x := range []struct {
		text string
		want []api.Tok
	}{
		{"\\\n", nil},
		{"\\\na", []api.Tok{{Kind: 1, Text: "a", From: 2, To: 3}}},
		{"a\\\n", []api.Tok{{Kind: 1, Text: "a", From: 0, To: 1}}},
		{"a\\\n\\\nb", []api.Tok{{Kind: 1, Text: "ab", From: 0, To: 6}}},
		{"a\\\n\\\n b", []api.Tok{{Kind: 1, Text: "a", From: 0, To: 1}, {Kind: 1, Text: "b", From: 6, To: 7, Blank: true}}},
		{"a \\\nb", []api.Tok{{Kind: 1, Text: "a", From: 0, To: 1}, {Kind: 1, Text: "b", From: 4, To: 5, Blank: true}}},
		{"a\\\n+", []api.Tok{{Kind: 1, Text: "a", From: 0, To: 1}, {Kind: 5, Text: "+", From: 3, To: 4}}},
		{"<\\\n<\\\n=", []api.Tok{{Kind: 5, Text: "<<=", From: 0, To: 7}}},
		{".\\\n5e\\\n+\\\n1", []api.Tok{{Kind: 2, Text: ".5e+1", From: 0, To: 11}}},
		{"\"a\\\nb\"", []api.Tok{{Kind: 4, Text: "\"ab\"", From: 0, To: 6}}},
		{"'\\\\\n''", []api.Tok{{Kind: 3, Text: "'\\''", From: 0, To: 6}}},
		{"/\\\n/a\\\nb\nc", []api.Tok{{Kind: 7, Text: "\n", From: 8, To: 9, Blank: true}, {Kind: 1, Text: "c", From: 9, To: 10}}},
		{"/\\\n*a\\\n*\\\n/b", []api.Tok{{Kind: 1, Text: "b", From: 11, To: 12, Blank: true}}},
		{"\\\n\n\\\n", []api.Tok{{Kind: 7, Text: "\n", From: 2, To: 3}}},
		{"\\ \n", []api.Tok{{Kind: 6, Text: "\\", From: 0, To: 1}, {Kind: 7, Text: "\n", From: 2, To: 3, Blank: true}}},
		{"\\\\\n\n", []api.Tok{{Kind: 6, Text: "\\", From: 0, To: 1}, {Kind: 7, Text: "\n", From: 3, To: 4}}},
	} {
		if got := pptok.Tokens(0, x.text); !slices.Equal(got, x.want) {
			t.Errorf("Tokens of %q: %v, not %v", x.text, got, x.want)
		}
	}
}

func TestC1NamesAndNumbers(t *testing.T) {
	hold(t, []example{
		{"_", "[1_]"}, {"aZ_09 Az", "[1aZ_09] [1Az]"}, {"__x9-", "[1__x9][5-]"}, {"a.b", "[1a][5.][1b]"}, {"a1.5", "[1a1][2.5]"}, {"L'x'", "[1L][3'x']"},
		{"0", "[20]"}, {"9a_Z.", "[29a_Z.]"}, {"1..2", "[21..2]"}, {".5", "[2.5]"}, {".5.", "[2.5.]"}, {"..5", "[5.][2.5]"}, {"....5", "[5...][2.5]"}, {".", "[5.]"}, {".a", "[5.][1a]"}, {"._", "[5.][1_]"},
		{"1e+2", "[21e+2]"}, {"1E-2", "[21E-2]"}, {"1p+2", "[21p+2]"}, {"1P-2", "[21P-2]"}, {".1e+", "[2.1e+]"}, {"1e+e-p+P-", "[21e+e-p+P-]"},
		{"1e", "[21e]"}, {"1e2+3", "[21e2][5+][23]"}, {"1e*2", "[21e][5*][22]"}, {"1e++2", "[21e+][5+][22]"}, {"1ee+2", "[21ee+2]"}, {"1f+2", "[21f][5+][22]"}, {"1+2", "[21][5+][22]"}, {"1.+2", "[21.][5+][22]"}, {"1x+", "[21x][5+]"},
		{"e+1", "[1e][5+][21]"}, {".e+1", "[5.][1e][5+][21]"}, {"0xe+1", "[20xe+1]"}, {"0xf+1", "[20xf][5+][21]"}, {"1'000", "[21][6'][2000]"}, {"1u8\"a\"", "[21u8][4\"a\"]"},
	})
}

func TestC1Quotes(t *testing.T) {
	hold(t, []example{
		{"\"\"", "[4\"\"]"}, {"\"a b\"", "[4\"a b\"]"}, {"\"a\"\"b\"", "[4\"a\"][4\"b\"]"}, {"\"'\"", "[4\"'\"]"}, {"\"\"\"", "[4\"\"][6\"]"},
		{"'a'", "[3'a']"}, {"'ab c'", "[3'ab c']"}, {"'\"'", "[3'\"']"}, {"''", "[6'][6']"}, {"'''", "[6'][6'][6']"}, {"''a'", "[6'][3'a']"}, {"'a''b'", "[3'a'][3'b']"}, {"'' '", "[6'][3' ']"},
		{"\"\\\"\"", "[4\"\\\"\"]"}, {"'\\''", "[3'\\'']"}, {"\"\\\\\"", "[4\"\\\\\"]"}, {"'\\\\'", "[3'\\\\']"}, {"'a\\\\'b", "[3'a\\\\'][1b]"}, {"\"\\a\"", "[4\"\\a\"]"}, {"'\\\"'", "[3'\\\"']"},
		{"\"\\\"", "[6\"][6\\][6\"]"}, {"'\\'", "[6'][6\\][6']"}, {"\"\\", "[6\"][6\\]"}, {"'\\", "[6'][6\\]"}, {"\"a\\", "[6\"][1a][6\\]"},
		{"\"a\\\\\n\n\"", "[6\"][1a][6\\][7\n][6\"]"}, {"'\\\\\n\n'", "[6'][6\\][7\n][6']"}, {"\"\\\\\\\n\n\"", "[6\"][6\\][6\\][7\n][6\"]"},
		{"\"a\n\"", "[6\"][1a][7\n][6\"]"}, {"'a\n'", "[6'][1a][7\n][6']"}, {"'\n'", "[6'][7\n][6']"}, {"\"a", "[6\"][1a]"}, {"'a", "[6'][1a]"}, {"\"", "[6\"]"}, {"'", "[6']"},
		{"\"a'b'", "[6\"][1a][3'b']"}, {"'a\"b\"", "[6'][1a][4\"b\"]"}, {"\"\x00\xff\té\"", "[4\"\x00\xff\té\"]"}, {"'\xff'", "[3'\xff']"},
	})
}

func TestC1Signs(t *testing.T) {
	signs := strings.Fields(signList)
	if len(signs) != 48 {
		t.Fatalf("%d signs", len(signs))
	}
	for _, s := range signs {
		want := []api.Tok{{Kind: api.Punct, Text: s, From: 0, To: len(s)}}
		if got := pptok.Tokens(0, s); !slices.Equal(got, want) {
			t.Errorf("Tokens of %q: %v", s, got)
		}
		// A name that ends a sign leaves the text's end as it is.
		if got := shown(pptok.Tokens(0, s+"a")); got != "[5"+s+"][1a]" {
			t.Errorf("Tokens of %q: %v", s+"a", got)
		}
	}
	hold(t, []example{
		{"....", "[5...][5.]"}, {"..", "[5.][5.]"}, {".....", "[5...][5.][5.]"}, {"<<<=", "[5<<][5<=]"}, {">>>>=", "[5>>][5>>=]"}, {"<<==", "[5<<=][5=]"}, {"===", "[5==][5=]"},
		{"&&=", "[5&&][5=]"}, {"&&&", "[5&&][5&]"}, {"|||", "[5||][5|]"}, {"->>", "[5->][5>]"}, {"--->", "[5--][5->]"}, {"###", "[5##][5#]"}, {"+=+", "[5+=][5+]"}, {"!==", "[5!=][5=]"}, {"~=", "[5~][5=]"}, {"?:", "[5?][5:]"}, {"::", "[5:][5:]"}, {"<:", "[5<][5:]"}, {"%:%:", "[5%][5:][5%][5:]"}, {"[]", "[5[][5]]"}, {"x<<=y>>=z", "[1x][5<<=][1y][5>>=][1z]"}, {"a##b#c", "[1a][5##][1b][5#][1c]"}, {"^=^", "[5^=][5^]"}, {"< <=", "[5<] [5<=]"},
	})
}

func TestC1Others(t *testing.T) {
	hold(t, []example{
		{"@$`", "[6@][6$][6`]"}, {"\\a", "[6\\][1a]"}, {"\\\\", "[6\\][6\\]"}, {"é", "[6\xc3][6\xa9]"}, {"aé1", "[1a][6\xc3][6\xa9][21]"}, {"1ß", "[21][6\xc3][6\x9f]"},
		{"\xff\xfe", "[6\xff][6\xfe]"}, {"\x00", "[6\x00]"}, {"\x7f", "[6\x7f]"}, {" @ @", " [6@] [6@]"}, {"Ａ", "[6\xef][6\xbc][6\xa1]"}, {"1٣", "[21][6\xd9][6\xa3]"},
	})
}

func TestC1Files(t *testing.T) {
	for _, file := range []int{0, 1, 7, -1, math.MaxInt, math.MinInt} {
		got := pptok.Tokens(file, "a /*b*/ c\\\nd\n")
		want := []api.Tok{
			{Kind: 1, Text: "a", File: file, From: 0, To: 1},
			{Kind: 1, Text: "cd", File: file, From: 8, To: 12, Blank: true},
			{Kind: 7, Text: "\n", File: file, From: 12, To: 13},
		}
		if !slices.Equal(got, want) {
			t.Errorf("of file %d: %v", file, got)
		}
	}
}

func TestC1AllShortTexts(t *testing.T) {
	for _, text := range everyKind() {
		if got, want := pptok.Tokens(2, text), told(2, text); !slices.Equal(got, want) {
			t.Fatalf("Tokens of %q: %v, not %v", text, got, want)
		}
	}
}

// Print takes any list, not one of Tokens alone: kinds and places do not matter to it.
func TestC2Print(t *testing.T) {
	for _, x := range []struct {
		l    []api.Tok
		want string
	}{
		{nil, ""},
		{[]api.Tok{}, ""},
		{[]api.Tok{{}}, ""},
		{[]api.Tok{{Blank: true}}, " "},
		{[]api.Tok{{Text: "a"}, {Text: "b"}, {Text: "c", Blank: true}}, "ab c"},
		{[]api.Tok{{Kind: -3, Text: " x ", File: 9, From: 5, To: 1, Blank: true}, {Text: "\n", Blank: true}, {Text: "\xff\\\n"}}, "  x  \n\xff\\\n"},
		{pptok.Tokens(0, "\t\ta/**/+ //b\nc\\\nd \r"), " a + \ncd"},
	} {
		if got := pptok.Print(x.l); got != x.want {
			t.Errorf("Print of %v: %q, not %q", x.l, got, x.want)
		}
	}
}

func TestC3Examples(t *testing.T) {
	for _, x := range []struct {
		s    string
		kind int
	}{
		{"a", 1}, {"_Az9", 1}, {"0", 2}, {"1.e+5", 2}, {".5", 2}, {"'x'", 3}, {"'\\''", 3}, {"\"\"", 4}, {"\"a b/*c*/\"", 4}, {"<<=", 5}, {"##", 5}, {"/", 5}, {"@", 6}, {"\\", 6}, {"'", 6}, {"\"", 6}, {"\xff", 6}, {"\x00", 6},
	} {
		want := api.Tok{Kind: x.kind, Text: x.s, From: 0, To: len(x.s)}
		if got, ok := pptok.One(x.s); !ok || got != want {
			t.Errorf("One of %q: %v, %v", x.s, got, ok)
		}
	}
}

func TestC3None(t *testing.T) {
	for _, s := range []string{
		"", " ", "\r", "/**/", "//a", pair, "\n", "\n\n", " \n", "\n ", "a\n", "\na",
		"a b", "+++", "a+", "1a b", "''", "'a", "\"a", "é", "a\xff", "/*", "<=<",
		" a", "\ta", "\va", "\fa", "\ra", "/**/a", "//\na", "a ", "a\t", "a\v", "a\f", "a\r", "a/**/", "a//", " a ",
		"a\\\nb", "\\\na", "a\\\n", "\"a\\\nb\"", "<\\\n<", "\\\n\n", "\\\\\n", "\\\\\n\n",
	} {
		if got, ok := pptok.One(s); ok || got != (api.Tok{}) {
			t.Errorf("One of %q: %v, %v", s, got, ok)
		}
	}
}

func TestC3AllShortTexts(t *testing.T) {
	for _, s := range everyKind() {
		l := told(0, s)
		want := len(l) == 1 && l[0].Kind != api.Newline && !l[0].Blank && l[0].From == 0 && l[0].To == len(s) && splice.Pairs(s) == 0
		got, ok := pptok.One(s)
		if ok != want || ok && got != l[0] || !ok && got != (api.Tok{}) {
			t.Fatalf("One of %q: %v, %v", s, got, ok)
		}
	}
}

func TestC4OneBehindTheOther(t *testing.T) {
	for _, text := range everyKind() {
		l := pptok.Tokens(0, text)
		at := 0
		for i, x := range l {
			if x.From < at || x.To <= x.From || x.To > len(text) {
				t.Fatalf("token %d of %q takes up %d to %d, the one ahead goes to %d", i, text, x.From, x.To, at)
			}
			if got := splice.Text(splice.Join(text[x.From:x.To])); got != x.Text {
				t.Fatalf("token %d of %q is %q, and takes up %q", i, text, x.Text, got)
			}
			if got := told(0, text[at:x.From]); len(got) > 0 {
				t.Fatalf("ahead of token %d of %q stand %v", i, text, got)
			}
			at = x.To
		}
		if got := told(0, text[at:]); len(got) > 0 {
			t.Fatalf("behind the tokens of %q stand %v", text, got)
		}
	}
}

func TestC4PrintedAndToldAgain(t *testing.T) {
	other := func(x api.Tok) bool { return x.Kind == api.Other }
	alike := func(x, y api.Tok) bool { return x.Kind == y.Kind && x.Text == y.Text && x.Blank == y.Blank }
	for _, text := range everyKind() {
		l := pptok.Tokens(0, text)
		if slices.ContainsFunc(l, other) {
			continue
		}
		if again := pptok.Tokens(0, pptok.Print(l)); !slices.EqualFunc(l, again, alike) {
			t.Fatalf("%q: %v, and printed %v", text, l, again)
		}
	}
}

// R5: what is handed in stays as it was.
func TestR5NothingIsChanged(t *testing.T) {
	l := []api.Tok{{Kind: 1, Text: "a", From: 3, To: 4}, {Kind: 9, Text: "", Blank: true}}
	was := slices.Clone(l)
	pptok.Print(l)
	if !slices.Equal(l, was) {
		t.Errorf("the list is now %v", l)
	}
}

// R6: a call hangs on its arguments alone, so that an answer that is spoilt spoils no other.
func TestR6NothingIsKept(t *testing.T) {
	const text = "a <<= 'b' // c\n"
	want := told(4, text)
	first := pptok.Tokens(4, text)
	for i := range first {
		first[i] = api.Tok{Kind: -1, Text: "spoilt", From: -1, Blank: true}
	}
	pptok.One("/* \"")
	pptok.Tokens(1, "/* \"a")
	if got := pptok.Tokens(4, text); !slices.Equal(got, want) {
		t.Errorf("told again: %v", got)
	}
}
