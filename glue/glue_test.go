package glue_test

import (
	"math"
	"regexp"
	"slices"
	"strings"
	"testing"

	"emend/api"
	"emend/glue"
	"emend/pptok"
)

func TestG1Text(t *testing.T) {
	for _, x := range [][2]string{
		{"a  +b", "a +b"}, {" a", "a"},
		{"", ""}, {" ", ""}, {"a", "a"}, {"a ", "a"}, {" a ", "a"}, {"\t/**/a//", "a"}, {"ab", "ab"}, {"a b", "a b"}, {"a\t/*x*/ b", "a b"}, {"+ + +", "+ + +"}, {"+-+", "+-+"},
		{"\n", ""}, {"\n\n\n", ""}, {" \n \n ", ""}, {"\na", "a"}, {"\n a", "a"}, {" \na", "a"}, {"\n\n \n a", "a"},
		{"a\n", "a"}, {"a \n", "a"}, {"a\n\n \n", "a"}, {"a\nb", "a b"}, {"a\n\n\nb", "a b"}, {"a \n \n b", "a b"}, {"a\n b", "a b"}, {"a \nb", "a b"}, {"\na\nb\nc\n", "a b c"}, {"a\n+b", "a +b"}, {"a+\nb+c", "a+ b+c"},
		{"a//x\nb", "a b"}, {"a/*\n*/b", "a b"}, {"in\\\nt x", "int x"}, {"a\\\n\\\n\nb", "a b"}, {"\\", "\\"}, {"\"a\n\"b", "\"a \"b"},
		{"\"a  \\\"b\" 'c  d'", "\"a  \\\"b\" 'c  d'"}, {"f(\"x\\n\", '\"')", "f(\"x\\n\", '\"')"}, {"\xff \x00\r", "\xff \x00"},
	} {
		if got := glue.Text(pptok.Tokens(4, x[0])); got != x[1] {
			t.Errorf("Text of %q: %q, not %q", x[0], got, x[1])
		}
	}
}

// Tokens that no text has are written as those of a text are: what Text asks of them is whether they are Newlines, and their Blank.
func TestG1AnyTokens(t *testing.T) {
	for _, x := range []struct {
		l    []api.Tok
		want string
	}{
		{nil, ""}, {[]api.Tok{{}}, ""}, {[]api.Tok{{Blank: true}}, ""}, {[]api.Tok{{}, {}}, ""}, {[]api.Tok{{}, {Blank: true}}, " "}, {[]api.Tok{{Blank: true}, {Blank: true}, {Blank: true}}, "  "},
		{[]api.Tok{{}, {Kind: api.Newline}, {}}, " "}, {[]api.Tok{{Kind: api.Newline}, {}, {Kind: api.Newline}}, ""}, {[]api.Tok{{}, {Text: "a", Blank: true}}, " a"},
		{[]api.Tok{{Kind: api.Newline, Text: "x", Blank: true}}, ""}, {[]api.Tok{{Text: "a"}, {Kind: api.Newline, Text: "x", Blank: true}, {Text: "b"}}, "a b"},
		{[]api.Tok{{Kind: api.Newline, Blank: true}, {Text: "a", Blank: true}, {Text: "b"}}, "ab"},
		{[]api.Tok{{Kind: api.Ident, Text: "\n"}, {Kind: api.Other, Text: "\n"}, {Kind: 8, Text: "\n", Blank: true}}, "\n\n \n"},
		{[]api.Tok{{Kind: math.MinInt, Text: " a "}, {Kind: math.MaxInt, Text: "\xff\\\n", File: -1, From: 9, To: 2, Blank: true}}, " a  \xff\\\n"},
	} {
		if got := glue.Text(x.l); got != x.want {
			t.Errorf("Text of %v: %q, not %q", x.l, got, x.want)
		}
	}
}

func TestG1G2AllShortLists(t *testing.T) {
	for _, s := range manyLists() {
		l := toks(s)
		text, within := told(s)
		if got := glue.Text(l); got != text {
			t.Fatalf("Text of %q: %q, not %q", s, got, text)
		}
		want := api.Tok{Kind: api.Str, Text: "\"" + within + "\""}
		if got := glue.String(l); got != want {
			t.Fatalf("String of %q: %+v, not %+v", s, got, want)
		}
	}
}

// Each text is one of C; what String tells of it is written as it stands in a file.
func TestG2String(t *testing.T) {
	for _, x := range [][2]string{
		{`f("x\n", '"')`, `"f(\"x\\n\", '\"')"`},
		{``, `""`}, {` `, `""`}, {`a`, `"a"`}, {` a `, `"a"`}, {"\n\n", `""`}, {"\n a\n+\n\n", `"a +"`}, {`a  +b`, `"a +b"`}, {`1, x`, `"1, x"`},
		{`""`, `"\"\""`}, {`"" ""`, `"\"\" \"\""`}, {`"a""b"`, `"\"a\"\"b\""`}, {`"a b"`, `"\"a b\""`},
		{`"\\"`, `"\"\\\\\""`}, {`"\""`, `"\"\\\"\""`}, {`"\"\\\""`, `"\"\\\"\\\\\\\"\""`}, {`"x\ty"`, `"\"x\\ty\""`}, {`"'"`, `"\"'\""`},
		{`'a'`, `"'a'"`}, {`'\''`, `"'\\''"`}, {`'\\'`, `"'\\\\'"`}, {`'"'`, `"'\"'"`}, {`'""\"'`, `"'\"\"\\\"'"`}, {`'\n'`, `"'\\n'"`},
		{`\`, `"\"`}, {`\n`, `"\n"`}, {`"`, `"""`}, {`"a`, `""a"`}, {`\"`, `"\""`}, {`'`, `"'"`}, {`@ \ "\"`, `"@ \ "\""`}, {`@\"\\"`, `"@\\"\\\\\""`},
	} {
		want := api.Tok{Kind: api.Str, Text: x[1]}
		if got := glue.String(pptok.Tokens(4, x[0])); got != want {
			t.Errorf("String of %q: %+v, not %+v", x[0], got, want)
		}
	}
}

// Where the tokens stand, and whether a blank is ahead of them, the string does not tell.
func TestG2Place(t *testing.T) {
	l := []api.Tok{{Kind: api.Str, Text: "\"", File: 3, From: 5, To: 7, Blank: true}}
	if got := glue.String(l); got != (api.Tok{Kind: api.Str, Text: "\"\\\"\""}) {
		t.Errorf("%+v", got)
	}
	for _, none := range [][]api.Tok{nil, {}, {{Blank: true}}, {{Kind: api.Newline, Text: "\n", File: 2, From: 1, To: 2, Blank: true}}} {
		if got := glue.String(none); got != (api.Tok{Kind: api.Str, Text: "\"\""}) {
			t.Errorf("of %v: %+v", none, got)
		}
	}
}

// pasted is what two texts come to: a kind of token, or 0 for ErrGlue.
type pasted struct {
	a, b string
	kind int
}

func TestG3Paste(t *testing.T) {
	for _, x := range []pasted{
		{"a", "1", api.Ident}, {"+", "+", api.Punct}, {"+", "a", 0}, {"/", "/", 0},
		{"a", "b", api.Ident}, {"_", "9", api.Ident}, {"1", "a", api.Number}, {"1", ".", api.Number}, {".", "1", api.Number}, {"1e", "-", api.Number}, {"1", "e+5", api.Number}, {"0x", "f", api.Number},
		{"<", "<=", api.Punct}, {"<<", "=", api.Punct}, {"-", ">", api.Punct}, {"#", "#", api.Punct}, {"..", ".", api.Punct}, {".", "..", api.Punct}, {"&", "&", api.Punct},
		{"\"a", "\"", api.Str}, {"\"", "\"", api.Str}, {"\"a\\\"", "b\"", api.Str}, {"\"a\\", "\"\"", api.Str}, {"\"/*", " //\"", api.Str}, {"'", "a'", api.Quote}, {"'a", "'", api.Quote}, {"'\\'", "'", api.Quote}, {"'\"", "\"'", api.Quote},
		// Two that are two.
		{"a", "+", 0}, {"1", "-", 0}, {"e", "-", 0}, {"1x", "-", 0}, {"<", ">", 0}, {"##", "#", 0}, {"+", "++", 0}, {".", ".", 0}, {"...", ".", 0}, {"(", ")", 0}, {"-", "1", 0}, {"L", "'x'", 0}, {"L", "\"x\"", 0}, {"\"a\"", "\"b\"", 0}, {"\"a\"", "b", 0}, {"'", "'", 0}, {"\"a\\", "\"", 0}, {"@", "@", 0}, {"@", "a", 0}, {"a", "$", 0}, {"\\", "n", 0}, {"\xc3", "\xa9", 0}, {"a", "b c", 0},
		// An empty text.
		{"", "", 0}, {"", "a", api.Ident}, {"a", "", api.Ident}, {"", "<<=", api.Punct}, {"1.5", "", api.Number}, {"", "'x'", api.Quote}, {"\"\"", "", api.Str}, {"@", "", api.Other}, {"", "\\", api.Other}, {"\xff", "", api.Other}, {"", "\x00", api.Other}, {"'", "", api.Other}, {"", "\"", api.Other}, {"", "a+", 0}, {"+++", "", 0},
		// Comments.
		{"/", "*", 0}, {"/", "**/", 0}, {"/*", "*/", 0}, {"/*", "", 0}, {"", "//", 0}, {"a", "//", 0}, {"a", "/**/", 0}, {"/**/", "a", 0}, {"//\n", "a", 0}, {"a/*", "*/b", 0}, {"a/", "/b", 0},
		// Blanks.
		{"a", " ", 0}, {" ", "a", 0}, {" ", "", 0}, {"", "\t", 0}, {"\r", "a", 0}, {"a", "\v", 0}, {"\f", "+", 0}, {"a ", "b", 0}, {"+", " +", 0},
		// Pairs, one made of both texts among them.
		{"\\\n", "a", 0}, {"a", "\\\n", 0}, {"a\\\n", "b", 0}, {"a", "\\\nb", 0}, {"a\\", "\nb", 0}, {"\\", "\n", 0}, {"\\\n", "", 0}, {"<\\\n", "<", 0}, {"\"\\", "\n\"", 0}, {"/\\\n", "/", 0},
		// Line ends.
		{"\n", "", 0}, {"", "\n", 0}, {"\n", "\n", 0}, {"a", "\n", 0}, {"\n", "a", 0}, {"a\n", "b", 0}, {"\"\n", "\"", 0}, {"'\n", "'", 0},
	} {
		checkPaste(t, x)
	}
}

// checkPaste holds a pasting against what is wanted, with tokens whose other fields are each of their own.
func checkPaste(t *testing.T, x pasted) {
	t.Helper()
	for i, blank := range []bool{false, true} {
		a := api.Tok{Kind: 7*i - 1, Text: x.a, File: 5 + i, From: -3, To: 11 * i, Blank: blank}
		b := api.Tok{Kind: api.Newline * i, Text: x.b, File: 77, From: 78, To: 79, Blank: !blank}
		want, e := api.Tok{}, api.ErrGlue
		if x.kind != 0 {
			want, e = api.Tok{Kind: x.kind, Text: x.a + x.b, File: a.File, From: a.From, To: a.To, Blank: a.Blank}, api.OK
		}
		if got, f := glue.Paste(a, b); got != want || f != e {
			t.Errorf("Paste of %+v and %+v: %+v, %d", a, b, got, f)
		}
	}
}

// All pairs of short texts, of which few are tokens' own.
func TestG3AllShortTexts(t *testing.T) {
	texts := grown("", "a1.+\"'\\/* \n<=", 2)
	glued := 0
	for _, a := range texts {
		for _, b := range texts {
			one, ok := pptok.One(a + b)
			if ok {
				glued++
			}
			checkPaste(t, pasted{a, b, one.Kind})
		}
	}
	if glued < 300 {
		t.Errorf("only %d are one token", glued)
	}
}

// A token comes of its halves, wherever it is cut.
func TestG3Halves(t *testing.T) {
	for _, x := range pptok.Tokens(0, "main 0x1.fp-3 'a\\'b' \"/* \\\" */\" <<= ... -> ## ;\n@") {
		if x.Kind == api.Newline {
			continue
		}
		for cut := range len(x.Text) + 1 {
			checkPaste(t, pasted{x.Text[:cut], x.Text[cut:], x.Kind})
		}
	}
}

func TestG4Unquote(t *testing.T) {
	for _, x := range [][2]string{
		{`"a\"b"`, `a"b`},
		{`""`, ``}, {`"a"`, `a`}, {`" a b "`, ` a b `}, {`"'"`, `'`}, {`"/* // "`, `/* // `},
		{`"\""`, `"`}, {`"\\"`, `\`}, {`"\\\""`, `\"`}, {`"\\\\"`, `\\`}, {`"\\\\\""`, `\\"`}, {`"\"\""`, `""`}, {`"\"a\""`, `"a"`}, {`"\\a\\"`, `\a\`},
		{`"\n"`, `n`}, {`"\\n"`, `\n`}, {`"\0\x4"`, `0x4`}, {`"\a\b"`, `ab`}, {"\"\\\n\"", "\n"}, {"\"\n\"", "\n"}, {"\"\r\n\t\"", "\r\n\t"}, {"\"\xff\\\xfeé\"", "\xff\xfeé"},
	} {
		if got, ok := glue.Unquote(x[0]); !ok || got != x[1] {
			t.Errorf("Unquote of %q: %q, %v", x[0], got, ok)
		}
	}
}

func TestG4NoString(t *testing.T) {
	for _, s := range []string{
		`"a"b"`, `a`,
		``, `"`, `a"`, `"a`, `'a'`, ` ""`, `"" `, "\"\"\n", `L"a"`, `"a'`, `'a"`, `\"a"`, `a""`, `""a`,
		`"\"`, `"a\"`, `"\\\"`, `"\\\\\"`, `"a\\\"`, `"\"\"`, `\"`, `"\`, `\""`,
		`"""`, `""""`, `"a""`, `""a"`, `"a""b"`, `"\\""`, `"\\"a"`, `"\\\\"b"`, `"\"""`, `"a" "b"`, "\"\xff\"\xff\"",
	} {
		if got, ok := glue.Unquote(s); ok || got != "" {
			t.Errorf("Unquote of %q: %q, %v", s, got, ok)
		}
	}
}

// Two bytes of every value between the quotes.
func TestG4EveryByte(t *testing.T) {
	for a := range 256 {
		for b := range 256 {
			between := string([]byte{byte(a), byte(b)})
			want, fine := between, a != '"' && b != '"' && b != '\\'
			if a == '\\' {
				want, fine = between[1:], true
			}
			if !fine {
				want = ""
			}
			if got, ok := glue.Unquote("\"" + between + "\""); got != want || ok != fine {
				t.Fatalf("between quotes %q: %q, %v", between, got, ok)
			}
		}
	}
}

var (
	quoted  = regexp.MustCompile(`^"((?s:\\.|[^"\\])*)"$`)
	escaped = regexp.MustCompile(`\\((?s:.))`)
)

func TestG4AllShortTexts(t *testing.T) {
	for _, s := range append(grown("", "\"\\a", 8), grown("", "\"\\\n' n", 6)...) {
		want, fine := "", quoted.MatchString(s)
		if fine {
			want = escaped.ReplaceAllString(quoted.FindStringSubmatch(s)[1], "$1")
		}
		if got, ok := glue.Unquote(s); got != want || ok != fine {
			t.Fatalf("Unquote of %q: %q, %v, not %q, %v", s, got, ok, want, fine)
		}
	}
}

// What was made a string, unquoted, is the text; of tokens that are Others this need not hold.
func TestG5StringsUnquoted(t *testing.T) {
	texts := append(grown("", "\"'\\a", 7), grown("", "\"\\ \n'+", 6)...)
	texts = append(texts, grown("", "'\"n1 \\\t", 6)...)
	texts = append(texts, `printf("%s\n" "\\\"", '"', '\\', L'\'' /* " */, "'", 1.e+5) -> x [0x5]`, "\"\xff\\\x00é\"", strings.Repeat(`"\\\"" '\'"' `, 300))
	held := 0
	for _, s := range texts {
		l := pptok.Tokens(1, s)
		if slices.ContainsFunc(l, func(x api.Tok) bool { return x.Kind == api.Other }) {
			continue
		}
		if slices.ContainsFunc(l, func(x api.Tok) bool { return strings.Contains(x.Text, "\\") }) {
			held++
		}
		if got, ok := glue.Unquote(glue.String(l).Text); !ok || got != glue.Text(l) {
			t.Fatalf("%q: %q, %v", s, got, ok)
		}
	}
	if held < 1000 {
		t.Errorf("only %d have a backslash", held)
	}
}
