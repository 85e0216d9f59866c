package service

import (
	"errand/api"
	"errand/fault"
	"errand/shape"
)

type signature struct {
	kind, proc       int
	argument, result string
}

var signatures = [...]signature{
	{api.Counter, 0, "i", "c"},
	{api.Counter, 1, "b", "c"},
	{api.Board, 0, "s", "c"},
	{api.Board, 1, "c", "q4s"},
	{api.Desk, 0, "r(e3q3i)", "u(bq3i)"},
}

// Signature tells the types of a procedure's argument and of its result.
func Signature(kind int, proc int) (string, string, api.Errno) {
	if !IsKind(kind) {
		return "", "", api.ErrArg
	}
	for _, s := range signatures {
		if s.kind == kind && s.proc == proc {
			return s.argument, s.result, api.OK
		}
	}
	return "", "", api.ErrProc
}

// types are those of a signature, read; it gives up with a Fault if there is no such procedure.
func types(kind int, proc int) (argument, result shape.Type) {
	a, r, e := Signature(kind, proc)
	if e != api.OK {
		panic(fault.Fault{Errno: e})
	}
	return shape.Read(a), shape.Read(r)
}
