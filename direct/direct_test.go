package direct_test

import (
	"math"
	"slices"
	"strings"
	"testing"

	"emend/api"
	"emend/direct"
	"emend/pptok"
)

func TestD1Words(t *testing.T) {
	kinds := []int{api.If, api.Ifdef, api.Ifndef, api.Elif, api.Else, api.Endif, api.Define, api.Undef, api.Include, api.Error, api.Pragma, api.LineNo}
	for i, w := range strings.Fields(theWords) {
		if got := direct.Kind(w); got != 2+i || got != kinds[i] {
			t.Errorf("Kind of %q: %d, not %d", w, got, 2+i)
		}
		if got := direct.Word(2 + i); got != w {
			t.Errorf("Word of %d: %q, not %q", 2+i, got, w)
		}
	}
}

func TestD1NoKind(t *testing.T) {
	known := strings.Fields(theWords)
	var others []string
	for _, w := range known {
		for i := range len(w) {
			others = append(others, w[:i]+w[i+1:])
			for b := range 256 {
				others = append(others, w[:i]+string([]byte{byte(b)})+w[i+1:], w[:i]+string([]byte{byte(b)})+w[i:])
			}
		}
		for b := range 256 {
			others = append(others, w+string([]byte{byte(b)}))
		}
		others = append(others, strings.ToUpper(w), strings.ToUpper(w[:1])+w[1:], w+w, "#"+w, " "+w, w+" ", "\""+w+"\"")
	}
	others = append(others, "", " ", "#", "text", "null", "unknown", "warning", "include_next", "elifdef", "elifndef", "embed", "ident", "lineno", "el", "ifdefined", "iƒ", "\xff", strings.Repeat("if", 2000))
	for _, w := range others {
		if slices.Contains(known, w) {
			continue
		}
		if got := direct.Kind(w); got != 0 {
			t.Errorf("Kind of %q: %d", w, got)
		}
	}
}

func TestD1NoWord(t *testing.T) {
	for _, kind := range []int{1, 0, -1, -2, -13, 14, 15, 16, 27, 256 + 2, 1<<32 + 2, math.MaxInt, math.MinInt, math.MinInt + 2} {
		if got := direct.Word(kind); got != "" {
			t.Errorf("Word of %d: %q", kind, got)
		}
	}
}

// shown is a line: its kind, First and N, and what it is about, printed.
type shown struct {
	kind, first, n int
	about          string
}

func TestD2Examples(t *testing.T) {
	for _, x := range []struct {
		text string
		want []shown
	}{
		{"int x;", []shown{{1, 0, 3, "int x;"}}},
		{"# if A\n#\n#foo 1\n#12", []shown{{2, 0, 3, " A"}, {14, 4, 1, ""}, {15, 6, 3, "foo 1"}, {15, 10, 2, "12"}}},
		{"#define X 1\n", []shown{{8, 0, 4, " X 1"}}},
		{"x # if", []shown{{1, 0, 3, "x # if"}}},
		{"", nil},
		{" /* a */ ", nil},
		{"\n", []shown{{1, 0, 0, ""}}},
		{" // a\n", []shown{{1, 0, 0, ""}}},
		{"\n\n\n", []shown{{1, 0, 0, ""}, {1, 1, 0, ""}, {1, 2, 0, ""}}},
		{"a\n\nb\n", []shown{{1, 0, 1, "a"}, {1, 2, 0, ""}, {1, 3, 1, "b"}}},
		{"\na\nb", []shown{{1, 0, 0, ""}, {1, 1, 1, "a"}, {1, 3, 1, "b"}}},
		{" /**/ # /**/ endif /**/ // x\n", []shown{{7, 0, 2, ""}}},
		{"#\\\nde\\\nfine X /*\n*/ 1 \\\n 2\n", []shown{{8, 0, 5, " X 1 2"}}},
		{"##\n# #\n##if\n#\"if\"\n#'if'\n#If\n# 1\n", []shown{{1, 0, 1, "##"}, {15, 2, 2, " #"}, {1, 5, 2, "##if"}, {15, 8, 2, "\"if\""}, {15, 11, 2, "'if'"}, {15, 14, 2, "If"}, {15, 17, 2, " 1"}}},
		{"#if #else\n#else if\n;#else", []shown{{2, 0, 4, " #else"}, {6, 5, 3, " if"}, {1, 9, 3, ";#else"}}},
		{"#if(A)\n#elif!A\n#else", []shown{{2, 0, 5, "(A)"}, {5, 6, 4, "!A"}, {6, 11, 2, ""}}},
		{"if A\nelse", []shown{{1, 0, 2, "if A"}, {1, 3, 1, "else"}}},
	} {
		var got []shown
		for _, l := range direct.Lines(pptok.Tokens(0, x.text)) {
			got = append(got, shown{l.Kind, l.First, l.N, pptok.Print(l.Toks)})
		}
		if !slices.Equal(got, x.want) {
			t.Errorf("Lines of %q: %v, not %v", x.text, got, x.want)
		}
	}
}

func TestD2EachWord(t *testing.T) {
	for i, w := range strings.Fields(theWords) {
		for _, x := range []struct {
			text  string
			kind  int
			about string
		}{
			{"#" + w, 2 + i, ""}, {" # " + w + "\n", 2 + i, ""}, {"#" + w + " a b\n\n", 2 + i, " a b"}, {"#" + w + w, api.Unknown, w + w}, {"#" + w + " " + w, 2 + i, " " + w},
			{"#" + strings.ToUpper(w) + " a", api.Unknown, strings.ToUpper(w) + " a"}, {"#x " + w, api.Unknown, "x " + w}, {"#\"" + w + "\"", api.Unknown, "\"" + w + "\""}, {w + "#" + w, api.Text, w + "#" + w}, {w, api.Text, w},
		} {
			got := direct.Lines(pptok.Tokens(0, x.text))[0]
			if got.Kind != x.kind || pptok.Print(got.Toks) != x.about {
				t.Errorf("Lines of %q: %v", x.text, got)
			}
		}
	}
}

func TestD2AllShortLists(t *testing.T) {
	for _, s := range manyLists() {
		if got, want := direct.Lines(toks(s)), told(s); !sameLines(got, want) {
			t.Fatalf("Lines of %q: %v, not %v", s, got, want)
		}
	}
}

// Lines is asked by tokens, which need be those of no text: the kind alone makes a Newline, kind and text a `#` and a word.
func TestD2TokensOfNoText(t *testing.T) {
	hash := api.Tok{Kind: api.Punct, Text: "#", File: -4, From: 9, To: 2}
	for _, x := range []struct {
		l    []api.Tok
		want []api.Line
	}{
		{nil, nil},
		{[]api.Tok{}, nil},
		{[]api.Tok{{}}, []api.Line{{Kind: api.Text, N: 1, Toks: []api.Tok{{}}}}},
		{[]api.Tok{{Kind: api.Newline}, {Kind: api.Newline, Text: "if"}, {Text: "\n"}}, []api.Line{{Kind: api.Text}, {Kind: api.Text, First: 1}, {Kind: api.Text, First: 2, N: 1, Toks: []api.Tok{{Text: "\n"}}}}},
		{[]api.Tok{hash, {Kind: -1, Text: "if"}}, []api.Line{{Kind: api.Unknown, N: 2, Toks: []api.Tok{{Kind: -1, Text: "if"}}}}},
		{[]api.Tok{hash, {Kind: api.Ident}}, []api.Line{{Kind: api.Unknown, N: 2, Toks: []api.Tok{{Kind: api.Ident}}}}},
		{[]api.Tok{hash, {Kind: api.Ident, Text: "if "}}, []api.Line{{Kind: api.Unknown, N: 2, Toks: []api.Tok{{Kind: api.Ident, Text: "if "}}}}},
		{[]api.Tok{hash, {Kind: api.Ident, Text: "error", From: 9}, hash}, []api.Line{{Kind: api.Error, N: 3, Toks: []api.Tok{hash}}}},
		{[]api.Tok{{Kind: api.Punct, Text: "# "}, {Kind: api.Ident, Text: "if"}}, []api.Line{{Kind: api.Text, N: 2, Toks: []api.Tok{{Kind: api.Punct, Text: "# "}, {Kind: api.Ident, Text: "if"}}}}},
		{[]api.Tok{{Kind: math.MaxInt, Text: "#"}, {Kind: math.MinInt}}, []api.Line{{Kind: api.Text, N: 2, Toks: []api.Tok{{Kind: math.MaxInt, Text: "#"}, {Kind: math.MinInt}}}}},
	} {
		if got := direct.Lines(x.l); !sameLines(got, x.want) {
			t.Errorf("Lines of %v: %v, not %v", x.l, got, x.want)
		}
	}
}

func TestD3Texts(t *testing.T) {
	for _, x := range []struct {
		text, name string
		angled     bool
		e          api.Errno
	}{
		{"\"a.h\"", "a.h", false, 0}, {"<sys/a.h>", "sys/a.h", true, 0}, {"X", "", false, 40},
		{"\"\"", "", false, 0}, {"\" a  b \"", " a  b ", false, 0}, {"\"a\\\"b\\\\\"", "a\\\"b\\\\", false, 0}, {"\"<a>\"", "<a>", false, 0}, {"\"../é\xff\"", "../é\xff", false, 0}, {" \"a\" /* b */", "a", false, 0}, {"\"a\\\nb\"", "ab", false, 0},
		{"\"a\" \"b\"", "", false, 40}, {"\"a\"\"b\"", "", false, 40}, {"\"a\" x", "", false, 40}, {"x \"a\"", "", false, 40}, {"\"a", "", false, 40}, {"\"", "", false, 40}, {"'a'", "", false, 40}, {"L\"a\"", "", false, 40}, {"", "", false, 40},
		{"<a>", "a", true, 0}, {"<a.h> ", "a.h", true, 0}, {"< a >", "a", true, 0}, {"< a  b/*x*/c >", "a b c", true, 0}, {"<a .h>", "a .h", true, 0}, {"<a. h >", "a. h", true, 0}, {"<\"a\">", "\"a\"", true, 0}, {"<'>'>", "'>'", true, 0}, {"<a>>>", "a>>", true, 0}, {"<>>>", ">>", true, 0}, {"< <>", "<", true, 0}, {"<<>", "", false, 40}, {"<-->", "--", true, 0}, {"<@>", "@", true, 0}, {"<a\\\nb>", "ab", true, 0},
		{"<", "", false, 40}, {">", "", false, 40}, {"<>", "", false, 40}, {"< >", "", false, 40}, {"<a", "", false, 40}, {"a>", "", false, 40}, {"a", "", false, 40}, {"<a>b>", "", false, 40}, {"<a> b", "", false, 40}, {"<a> >", "", false, 40}, {"<> a >", "", false, 40}, {"<a>>", "", false, 40}, {"<a>=", "", false, 40}, {"<<a>", "", false, 40}, {"<=a>", "", false, 40}, {"x<a>", "", false, 40}, {"<a.h> // b", "a.h", true, 0}, {"<a//b>", "", false, 40}, {"<a->", "", false, 40},
	} {
		l := direct.Lines(pptok.Tokens(0, "#include "+x.text+"\n"))
		if len(l) != 1 {
			t.Fatalf("%q: %v", x.text, l)
		}
		name, angled, e := direct.Target(l[0])
		if name != x.name || angled != x.angled || e != x.e {
			t.Errorf("Target of %q: %q, %v, %d", x.text, name, angled, e)
		}
	}
}

func TestD3AllShortLists(t *testing.T) {
	lists := textsUpTo("<>{}GglaAqQ", 5)
	lists = append(lists, textsUpTo("<>eEpnsaq", 4)...)
	lists = append(lists, "<"+strings.Repeat("aA", 2000)+">", "<"+strings.Repeat("a", 2000), strings.Repeat("<", 2000)+">", strings.Repeat("q", 2000))
	for _, s := range lists {
		name, angled, e := direct.Target(api.Line{Kind: api.Include, Toks: toks(s)})
		if n, a, f := aimed(s); name != n || angled != a || e != f {
			t.Fatalf("Target of %q: %q, %v, %d, not %q, %v, %d", s, name, angled, e, n, a, f)
		}
	}
}

// Target is asked by tokens, which need be those of no text; of the line's numbers none matters but its Kind.
func TestD3TokensOfNoText(t *testing.T) {
	for _, x := range []struct {
		text, name string
		e          api.Errno
	}{
		{"", "", 40}, {"\"", "", 40}, {"a", "", 40}, {"\"a", "", 40}, {"a\"", "", 40}, {"'a'", "", 40}, {"<a>", "", 40}, {" \"a\"", "", 40}, {"\"a\" ", "", 40}, {"\"a\"\n", "", 40}, {"L\"a\"", "", 40},
		{"\"\"", "", 0}, {"\"\"\"", "\"", 0}, {"\"a\"b\"", "a\"b", 0}, {"\"\n\"", "\n", 0}, {"\"\\\"", "\\", 0}, {"\"\x00\xff\"", "\x00\xff", 0},
	} {
		l := api.Line{Kind: api.Include, First: -7, N: 99, Toks: []api.Tok{{Kind: api.Str, Text: x.text, Blank: true, File: -1, From: 8, To: 3}}}
		name, angled, e := direct.Target(l)
		if name != x.name || angled || e != x.e {
			t.Errorf("Target of the Str %q: %q, %v, %d", x.text, name, angled, e)
		}
		l.Toks[0].Kind = api.Quote
		if name, angled, e := direct.Target(l); name != "" || angled || e != api.ErrInclude {
			t.Errorf("Target of the Quote %q: %q, %v, %d", x.text, name, angled, e)
		}
	}
}

func TestD3WrongKinds(t *testing.T) {
	for _, kind := range []int{0, 1, 2, 3, 4, 5, 6, 7, 8, 9, 11, 12, 13, 14, 15, 16, -1, -10, 256 + 10, 1<<32 + 10, math.MaxInt, math.MinInt} {
		for _, s := range []string{"", "q", "Q", "<a>", "a", "qq"} {
			name, angled, e := direct.Target(api.Line{Kind: kind, N: 3, Toks: toks(s)})
			if name != "" || angled || e != api.ErrArg {
				t.Errorf("Target of %q, kind %d: %q, %v, %d", s, kind, name, angled, e)
			}
		}
	}
}

// Lines and the Newlines behind them are all of the tokens, in order, and what is no directive tells all that it has.
func TestD4OneBehindTheOther(t *testing.T) {
	for _, s := range manyLists() {
		l := toks(s)
		at := 0
		for i, x := range direct.Lines(l) {
			if x.First != at || x.N < 0 || at+x.N > len(l) {
				t.Fatalf("line %d of %q begins at %d with %d tokens, the ones ahead go to %d", i, s, x.First, x.N, at)
			}
			its := l[at : at+x.N]
			if x.Kind == api.Text && !slices.Equal(x.Toks, its) || len(x.Toks) > x.N || !slices.Equal(x.Toks, its[x.N-len(x.Toks):]) {
				t.Fatalf("line %d of %q, kind %d, has %v, and tells %v", i, s, x.Kind, its, x.Toks)
			}
			if at += x.N; at < len(l) && l[at].Kind != api.Newline {
				t.Fatalf("line %d of %q ends ahead of %v", i, s, l[at])
			}
			at++
		}
		if at < len(l) {
			t.Fatalf("lines of %q end at %d", s, at)
		}
	}
}
