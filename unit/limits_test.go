package unit_test

import (
	"testing"

	"emend/api"
)

// counts checks how many tokens are told of texts, whose lines are parted by bars.
func counts(t *testing.T, want int, barred ...string) {
	t.Helper()
	got, f := seen(t, "", each(barred, lines))
	if len(got) != want || f != (api.Fault{}) {
		t.Errorf("%d tokens, %v, not %d", len(got), f, want)
	}
}

func x(n int) string {
	return times(n, "x ")
}

// 4000 tokens may be told in all.
func TestJ5(t *testing.T) {
	t.Parallel()
	counts(t, 4000, x(4000))
	fails(t, "", api.ErrSteps, 0, 0, x(4001))
	fails(t, "", api.ErrSteps, 0, 1, "# | | "+x(4001))
	counts(t, 4000, times(4000, "x | "))
	fails(t, "", api.ErrSteps, 0, 1, "# | "+times(4001, "x | "))
	// By several runs.
	counts(t, 4000, times(4000, "x | # | "))
	fails(t, "", api.ErrSteps, 0, 8000, times(4001, "x | # | "))
	counts(t, 4000, x(3999)+" | # | x | # | | #")
	fails(t, "", api.ErrSteps, 0, 2, x(3999)+" | # | | x | x")
	fails(t, "", api.ErrSteps, 0, 2, x(4000)+" | # | x | #foo")
	fails(t, "", api.ErrSteps, 0, 2, x(1)+" | # | "+x(4000))
	counts(t, 4000, x(2000)+" | #if 1 | "+x(1000)+" | #if 1 | "+x(500)+" | #endif | #endif | "+x(500))
	fails(t, "", api.ErrSteps, 0, 6, x(2000)+" | #if 1 | "+x(1000)+" | #if 1 | "+x(500)+" | #endif | "+x(501)+" | #endif | x")
}

// By what is included, in one file and in several.
func TestJ5Included(t *testing.T) {
	t.Parallel()
	const one = "#include \"b\" | "
	counts(t, 4000, times(4, one), x(1000))
	fails(t, "", api.ErrSteps, 0, 4, times(4, one)+"| x", x(1000))
	fails(t, "", api.ErrSteps, 1, 0, times(4, one)+one, x(1000))
	fails(t, "", api.ErrSteps, 1, 2, "x | "+times(4, one), "# | # | "+x(1000))
	counts(t, 4000, x(1000)+" | #include \"b\" | "+x(1000), x(500)+" | #include \"c\" | "+x(500), x(1000))
	fails(t, "", api.ErrSteps, 0, 2, x(1000)+" | #include \"b\" | "+x(1000), x(500)+" | #include \"c\" | "+x(500), x(1001))
	fails(t, "", api.ErrSteps, 1, 2, x(2000)+" | #include \"b\" | "+x(1000), x(500)+" | #include \"c\" | "+x(501), x(1000))
	fails(t, "", api.ErrSteps, 2, 1, x(3000)+" | #include \"b\" | #error", x(500)+" | #include \"c\" | #error", "# | "+x(501))
}

// Tokens are counted as they are told: what is replaced is not, nor is what isn't told.
func TestJ5Told(t *testing.T) {
	t.Parallel()
	const macros = "#define E | #define N 1 2 3 4 5 | #define Z(a) | "
	counts(t, 4000, macros+times(800, "N "))
	counts(t, 4000, macros+times(400, "N ")+" | # | "+times(400, "N "))
	fails(t, "", api.ErrSteps, 0, 3, macros+times(800, "N ")+" x")
	fails(t, "", api.ErrSteps, 0, 5, macros+times(400, "N ")+" | # | x "+times(400, "N "))
	counts(t, 4000, macros+x(4000)+" | # | | E | Z("+x(5000)+") E | # | | ")
	counts(t, 4000, macros+"Z("+x(4000)+") | # | "+x(4000))
	counts(t, 4000, macros+x(4000)+" | #if 0 | x | #elif 1 | #else | x | #endif | #pragma "+x(5000)+" | #define M "+x(5000)+" | #line "+x(5000))
	counts(t, 4000, macros+x(4000)+" | #if 1"+times(1000, " + 1")+" | #endif | #ifdef E | #endif")
	// What is wrong with a run else is told first.
	fails(t, "", api.ErrArgs, 0, 5, macros+x(4000)+" | # | x Z(")
	fails(t, "", api.ErrCount, 0, 5, macros+x(4000)+" | # | Z(1,2) x")
	fails(t, "", api.ErrCount, 0, 3, macros+x(4001)+" Z(1,2)")
	fails(t, "", api.ErrSteps, 0, 5, macros+x(4000)+" | # | x | # | Z(")
	// A condition, too, may come to 4000 tokens, not to more.
	fails(t, "", api.ErrExpr, 0, 3, macros+"#if "+x(4000)+" | #endif")
	fails(t, "", api.ErrSteps, 0, 3, macros+"#if "+x(4001)+" | #endif")
}
