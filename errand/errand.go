// Package errand: calls of services on another host, each done at most once: see DOC.md.
package errand

import (
	"errand/api"
	"errand/fault"
	"errand/packet"
	"errand/service"
	"errand/shape"
	"errand/value"
)

// Check tells whether a text is a type (P3).
func Check(t string) (e api.Errno, at int) {
	defer func() {
		if r := recover(); r != nil {
			f := fault.Caught(r)
			e, at = f.Errno, f.At
		}
	}()
	shape.Read(t)
	return api.OK, 0
}

// Marshal writes a value as bytes (P4).
func Marshal(t string, v []api.Item) (s string, e api.Errno) {
	defer func() {
		if r := recover(); r != nil {
			s, e = "", fault.Caught(r).Errno
		}
	}()
	return value.Write(shape.Read(t), v), api.OK
}

// Unmarshal reads a value (P5).
func Unmarshal(t string, s string) (v []api.Item, e api.Errno) {
	defer func() {
		if r := recover(); r != nil {
			v, e = nil, fault.Caught(r).Errno
		}
	}()
	return value.Read(shape.Read(t), s), api.OK
}

// Signature tells a procedure's types: its argument's, its result's (P6).
func Signature(kind int, proc int) (string, string, api.Errno) {
	return service.Signature(kind, proc)
}

// Seal writes a packet as bytes (P7).
func Seal(p api.Packet) (s string, e api.Errno) {
	defer func() {
		if r := recover(); r != nil {
			s, e = "", fault.Caught(r).Errno
		}
	}()
	return packet.Write(p), api.OK
}

// Open reads a packet (P8).
func Open(s string) (p api.Packet, e api.Errno) {
	defer func() {
		if r := recover(); r != nil {
			p, e = api.Packet{}, fault.Caught(r).Errno
		}
	}()
	return packet.Read(s), api.OK
}
