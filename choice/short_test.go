package choice_test

import (
	"math/rand/v2"
	"slices"
	"strings"
	"testing"

	"emend/choice"
)

// All pairs of short words; what the two have in common stands once, which is more than the document asks for.
func TestShortPairs(t *testing.T) {
	t.Parallel()
	for _, x := range []struct {
		most    int
		letters string
	}{{6, "ab"}, {4, "abc"}} {
		words := wordsUpTo(x.most, x.letters)
		picks(2, words, func(l []string) {
			_, m := merged(t, listsOf(l...)...)
			rest, cut := l[1], 0
			for cut < min(len(l[0]), len(rest)) && l[0][cut] == rest[cut] {
				cut++
			}
			if want := len(l[0]) + len(rest) - cut - toldShared(l[0][cut:], rest[cut:]); len(m) != want {
				t.Fatalf("%q: %d parts, not %d", l, len(m), want)
			}
		})
	}
}

// All lists of short words, with two names and with three.
func TestShortWords(t *testing.T) {
	t.Parallel()
	picks(4, wordsUpTo(3, "ab")[:13], func(l []string) {
		merged(t, listsOf(l...)...)
	})
	picks(8, []string{"", "ab", "ba"}, func(l []string) {
		merged(t, listsOf(l...)...)
	})
}

// grown is a word with some letters left out, put in and turned about.
func grown(r *rand.Rand, word string, letters string, changes int) string {
	for range changes {
		at := r.IntN(len(word) + 1)
		switch r.IntN(3) {
		case 0:
			word = word[:at] + letters[r.IntN(len(letters)):][:1] + word[at:]
		case 1:
			word = word[:max(0, at-r.IntN(3))] + word[at:]
		case 2:
			word = word[:at/2] + word[at:] + word[at/2:at]
		}
	}
	return word
}

// Many lists that have grown out of one, with each number of names; and what is kept of them, and where their tokens are.
func TestGrown(t *testing.T) {
	t.Parallel()
	r := rand.New(rand.NewPCG(13, 1))
	for i := range 900 {
		vars := i % 9
		if vars > 4 && i%27 > 8 {
			continue
		}
		letters := "abcdefghijklmnop"[:1+r.IntN(16)]
		word := grown(r, "", letters, r.IntN(60))
		words := []string{word}
		for len(words) < 1<<vars {
			words = append(words, grown(r, words[r.IntN(len(words))], letters, r.IntN(4)))
		}
		r.Shuffle(len(words), func(i, j int) { words[i], words[j] = words[j], words[i] })
		a, m := merged(t, listsOf(words...)...)
		if vars > 4 {
			continue
		}
		h := make(has, 1<<vars)
		for set := range h {
			h[set] = r.IntN(2) == 0
		}
		if got, want := choice.Keep(a, m, node(t, a, h)), toldKeep(t, a, m, h); !slices.Equal(got, want) {
			t.Fatalf("%q, %v: %q, not %q", words, h, shown(t, a, got), shown(t, a, want))
		}
		for _, letter := range letters[:min(4, len(letters))] {
			h := make(has, 1<<vars)
			for set, w := range words {
				h[set] = strings.ContainsRune(w, letter)
			}
			if x := tok(letter); choice.Where(a, m, x.File, x.From, x.To) != node(t, a, h) {
				t.Fatalf("%q: %c", words, letter)
			}
		}
	}
}
