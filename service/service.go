// Package service: the kinds of services and their procedures.
package service

import "errand/api"

type signature struct {
	kind, proc       int
	argument, result string
}

var signatures = [...]signature{
	{api.Counter, 0, "i", "c"},
	{api.Counter, 1, "b", "c"},
	{api.Board, 0, "s", "c"},
	{api.Board, 1, "c", "q4s"},
	{api.Desk, 0, "r(e3q3i)", "u(bq3i)"},
}

// Signature tells the types of a procedure's argument and of its result.
func Signature(kind int, proc int) (string, string, api.Errno) {
	if !IsKind(kind) {
		return "", "", api.ErrArg
	}
	for _, s := range signatures {
		if s.kind == kind && s.proc == proc {
			return s.argument, s.result, api.OK
		}
	}
	return "", "", api.ErrProc
}

// IsKind tells whether there is such a kind.
func IsKind(kind int) bool {
	switch kind {
	case api.Counter, api.Board, api.Desk:
		return true
	}
	return false
}
