package splice_test

import (
	"slices"
	"strings"

	"emend/api"
)

const pair = "\\\n"

// textsUpTo are all texts of the letters, of at most so many bytes.
func textsUpTo(letters string, most int) []string {
	out := []string{""}
	last := out
	for range most {
		var next []string
		for _, s := range last {
			for _, b := range []byte(letters) {
				next = append(next, s+string([]byte{b}))
			}
		}
		out = append(out, next...)
		last = next
	}
	return out
}

// awkward are texts in which a backslash or a byte 10 stands where it is easily taken wrongly, and long ones.
func awkward() []string {
	every := make([]byte, 0, 512)
	for b := range 256 {
		every = append(every, byte(b), '\\')
	}
	return []string{
		"\\", "\n", "\\\r\n", "\\ \n", "\n\\", "??/\n", "/\n", "\\n", "\\\x0b", "\xff\\\n\xfe", "é\\\nß",
		"// a \\\n b", "\"x\\\ny\"", "#def\\\nine A \\\n 1\n", string(every),
		strings.Repeat(pair, 3000), strings.Repeat("\\", 3000) + "\n", strings.Repeat("a"+pair+"\n", 3000),
	}
}

// joined tells what Join must tell, byte by byte: one that is either half of a pair is not there.
func joined(text string) []api.Char {
	var out []api.Char
	for at := range len(text) {
		begins := text[at] == 92 && at+1 < len(text) && text[at+1] == 10
		ends := text[at] == 10 && at > 0 && text[at-1] == 92
		if !begins && !ends {
			out = append(out, api.Char{B: text[at], At: at})
		}
	}
	return out
}

// spread puts the pairs in one at a time, the hindmost first, so that the places ahead of it stay right.
func spread(s string, places []int) string {
	sorted := slices.Sorted(slices.Values(places))
	slices.Reverse(sorted)
	length := len(s)
	for _, at := range sorted {
		if at >= 0 && at <= length {
			s = s[:at] + pair + s[at:]
		}
	}
	return s
}
