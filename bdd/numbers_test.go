package bdd_test

import (
	"testing"

	"emend/api"
)

func TestErrorNumbers(t *testing.T) {
	for e, want := range map[api.Errno]int{
		api.OK: 0, api.ErrArg: 1, api.ErrLong: 2, api.ErrNode: 10, api.ErrPlace: 20, api.ErrInclude: 40,
		api.ErrElse: 50, api.ErrOpen: 51, api.ErrName: 60, api.ErrParams: 61, api.ErrBlank: 62,
		api.ErrPaste: 63, api.ErrHash: 64, api.ErrVa: 65, api.ErrGlue: 70, api.ErrArgs: 80,
		api.ErrCount: 81, api.ErrSteps: 82, api.ErrExpr: 90, api.ErrNumber: 91, api.ErrZero: 92,
		api.ErrShift: 93, api.ErrFile: 100, api.ErrMissing: 101, api.ErrDepth: 102, api.ErrRedef: 103,
		api.ErrError: 104, api.ErrDirective: 105, api.ErrVars: 110, api.ErrMixed: 120, api.ErrTree: 150,
		api.ErrDeep: 151, api.ErrSyntax: 160, api.ErrEdit: 200, api.ErrOverlap: 201, api.ErrNone: 210,
		api.ErrTaken: 211, api.ErrAsked: 212, api.ErrChanged: 213, api.ErrMacro: 214,
		api.ErrRequest: 240, api.ErrScript: 250,
	} {
		if int(e) != want {
			t.Errorf("%v: the document says %d", e, want)
		}
	}
}

// R7: decimal digits, `-` ahead of what is below 0, no noughts ahead.
func TestErrorWords(t *testing.T) {
	for e, want := range map[api.Errno]string{
		api.ErrArg: "emend: error 1", api.ErrNode: "emend: error 10", -10: "emend: error -10",
	} {
		if e.Error() != want {
			t.Errorf("%q, not %q", e.Error(), want)
		}
	}
}

func TestLimits(t *testing.T) {
	got := [...]int{api.MaxVars, api.MaxText, api.MaxSteps, api.MaxToks, api.MaxNest, api.MaxDepth, api.MaxIncludes, api.MaxTree, api.MaxFiles, api.MaxScript, api.MaxLines}
	if want := [...]int{8, 4000, 1000, 4000, 60, 8, 60, 100, 8, 6000, 200}; got != want {
		t.Errorf("%v, not %v", got, want)
	}
}
