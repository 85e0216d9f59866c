// Package errand: calls of services on another host, each done at most once: see DOC.md.
package errand

import (
	"errand/api"
	"errand/fault"
	"errand/packet"
	"errand/service"
	"errand/shape"
	"errand/value"
)

// Check tells whether a text is a type (P3).
func Check(t string) (e api.Errno, at int) {
	defer func() {
		if r := recover(); r != nil {
			f := fault.Caught(r)
			e, at = f.Errno, f.At
		}
	}()
	shape.Read(t)
	return api.OK, 0
}

// Marshal writes a value as bytes (P4).
func Marshal(t string, v []api.Item) (s string, e api.Errno) {
	defer func() {
		if r := recover(); r != nil {
			s, e = "", fault.Caught(r).Errno
		}
	}()
	return value.Write(shape.Read(t), v), api.OK
}

// Unmarshal reads a value (P5).
func Unmarshal(t string, s string) (v []api.Item, e api.Errno) {
	defer func() {
		if r := recover(); r != nil {
			v, e = nil, fault.Caught(r).Errno
		}
	}()
	return value.Read(shape.Read(t), s), api.OK
}

// Signature tells a procedure's types: its argument's, its result's (P6).
func Signature(kind int, proc int) (string, string, api.Errno) {
	return service.Signature(kind, proc)
}

// Seal writes a packet as bytes (P7).
func Seal(p api.Packet) (s string, e api.Errno) {
	defer func() {
		if r := recover(); r != nil {
			s, e = "", fault.Caught(r).Errno
		}
	}()
	return packet.Write(p), api.OK
}

// Open reads a packet (P8).
func Open(s string) (p api.Packet, e api.Errno) {
	defer func() {
		if r := recover(); r != nil {
			p, e = api.Packet{}, fault.Caught(r).Errno
		}
	}()
	return packet.Read(s), api.OK
}

// World is a server, clients, and the network between them.
type World struct{}

// New makes a world (P9).
func New(c api.Config) (*World, api.Errno) { return nil, api.OK }

// Export begins a service under a name (P10).
func (w *World) Export(name string, kind int) (int, api.Errno) { return 0, api.OK }

// Withdraw ends the service under a name (P10).
func (w *World) Withdraw(name string) api.Errno { return api.OK }

// Import binds a client to the service under a name (P10).
func (w *World) Import(client int, name string) (int, int, api.Errno) { return 0, 0, api.OK }

// Call makes a call (P11).
func (w *World) Call(client int, line int, uid int, proc int, arg []api.Item) (int, api.Errno) {
	return 0, api.OK
}

// Status tells how a line is (P11).
func (w *World) Status(client int, line int) (api.Status, api.Errno) { return api.Status{}, api.OK }

// Tick lets time go by (P12).
func (w *World) Tick() {}

// Flying tells how many packets fly (P13).
func (w *World) Flying() int { return 0 }

// Show tells where a packet flies to, and its bytes (P13).
func (w *World) Show(i int) (int, string, api.Errno) { return 0, "", api.OK }

// Drop loses a packet (P13).
func (w *World) Drop(i int) api.Errno { return api.OK }

// Copy makes a packet fly twice (P13).
func (w *World) Copy(i int) api.Errno { return api.OK }

// Bend turns a byte of a packet (P13).
func (w *World) Bend(i int, at int, by int) api.Errno { return api.OK }

// Deliver hands a packet to its host (P14 to P16).
func (w *World) Deliver(i int) api.Errno { return api.OK }

// Serve lets the server do a call (P17).
func (w *World) Serve() api.Errno { return api.OK }

// Log tells how many calls a service has done (P18).
func (w *World) Log(uid int) (int, api.Errno) { return 0, api.OK }

// Entry tells a call that a service has done (P18).
func (w *World) Entry(uid int, k int) (api.Entry, api.Errno) { return api.Entry{}, api.OK }

// Crash begins a host anew (P19).
func (w *World) Crash(host int) api.Errno { return api.OK }
