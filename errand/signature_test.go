package errand_test

import (
	"math"
	"testing"

	"errand/api"
	"errand/errand"
)

func TestSignature(t *testing.T) {
	for _, c := range []struct {
		kind, proc       int
		argument, result string
		e                api.Errno
	}{
		{api.Counter, 0, "i", "c", api.OK}, {api.Counter, 1, "b", "c", api.OK},
		{api.Board, 0, "s", "c", api.OK}, {api.Board, 1, "c", "q4s", api.OK},
		{api.Desk, 0, "r(e3q3i)", "u(bq3i)", api.OK},
		{api.Counter, 2, "", "", api.ErrProc}, {api.Counter, -1, "", "", api.ErrProc}, {api.Board, 2, "", "", api.ErrProc}, {api.Board, -1, "", "", api.ErrProc}, {api.Desk, 1, "", "", api.ErrProc}, {api.Desk, -1, "", "", api.ErrProc}, {api.Desk, math.MaxInt, "", "", api.ErrProc}, {api.Counter, math.MinInt, "", "", api.ErrProc},
		{-1, 0, "", "", api.ErrArg}, {3, 0, "", "", api.ErrArg}, {3, 9, "", "", api.ErrArg}, {-1, -1, "", "", api.ErrArg}, {math.MaxInt, math.MaxInt, "", "", api.ErrArg}, {math.MinInt, 1, "", "", api.ErrArg}, {1 << 32, 0, "", "", api.ErrArg}, {256, 0, "", "", api.ErrArg},
	} {
		if a, r, e := errand.Signature(c.kind, c.proc); a != c.argument || r != c.result || e != c.e {
			t.Errorf("P6: Signature(%d, %d) = %q, %q, %d, want %q, %q, %d", c.kind, c.proc, a, r, e, c.argument, c.result, c.e)
		}
	}
}

func TestSignaturesAreTypes(t *testing.T) {
	for kind := api.Counter; kind <= api.Desk; kind++ {
		for proc := 0; ; proc++ {
			a, r, e := errand.Signature(kind, proc)
			if e != api.OK {
				break
			}
			testCheckCases(t, []checkCase{{a, api.OK, 0}, {r, api.OK, 0}})
		}
	}
}
