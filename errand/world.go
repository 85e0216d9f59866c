package errand

import (
	"errand/api"
	"errand/caller"
	"errand/fault"
	"errand/network"
	"errand/server"
)

// World is a server, clients, and the network between them.
type World struct {
	net     *network.Network
	server  *server.Server
	clients []*caller.Client
}

// New makes a world (P9).
func New(c api.Config) (*World, api.Errno) {
	if !isRight(c) {
		return nil, api.ErrConfig
	}
	net := &network.Network{}
	w := &World{net: net, server: server.New(c, net)}
	for number := range c.Clients {
		w.clients = append(w.clients, caller.New(number, c, net))
	}
	return w, api.OK
}

func isRight(c api.Config) bool {
	return isFromOne(c.Clients, api.MaxClients) &&
		isFromOne(c.Lines, api.MaxLines) &&
		isFromOne(c.Retry, api.MaxRetry) &&
		isFromOne(c.Tries, api.MaxTries) &&
		isFromOne(c.Table, api.MaxTable)
}

func isFromOne(n int, most int) bool { return n >= 1 && n <= most }

// Export begins a service under a name (P10).
func (w *World) Export(name string, kind int) (int, api.Errno) {
	return w.server.Export(name, kind)
}

// Withdraw ends the service under a name (P10).
func (w *World) Withdraw(name string) api.Errno {
	return w.server.Withdraw(name)
}

// Import binds a client to the service under a name (P10).
func (w *World) Import(client int, name string) (int, int, api.Errno) {
	if !w.hasClient(client) {
		return 0, 0, api.ErrClient
	}
	uid, kind, e := w.server.Find(name)
	if e != api.OK {
		return 0, 0, e
	}
	w.clients[client].Bind(uid, kind)
	return uid, kind, api.OK
}

// Call makes a call (P11).
func (w *World) Call(client int, line int, uid int, proc int, arg []api.Item) (seq int, e api.Errno) {
	defer func() {
		if r := recover(); r != nil {
			seq, e = 0, fault.Caught(r).Errno
		}
	}()
	if !w.hasClient(client) {
		return 0, api.ErrClient
	}
	return w.clients[client].Call(line, uid, proc, arg)
}

// Status tells how a line is (P11).
func (w *World) Status(client int, line int) (api.Status, api.Errno) {
	if !w.hasClient(client) {
		return api.Status{}, api.ErrClient
	}
	return w.clients[client].Status(line)
}

func (w *World) hasClient(number int) bool { return number >= 0 && number < len(w.clients) }

// Tick lets time go by (P12, P17).
func (w *World) Tick() {
	for _, c := range w.clients {
		c.Tick()
	}
	w.server.Tick()
}

// Flying tells how many packets fly (P13).
func (w *World) Flying() int { return w.net.Flying() }

// Show tells where a packet flies to, and its bytes (P13).
func (w *World) Show(i int) (int, string, api.Errno) { return w.net.Show(i) }

// Drop loses a packet (P13).
func (w *World) Drop(i int) api.Errno { return w.net.Drop(i) }

// Copy makes a packet fly twice (P13).
func (w *World) Copy(i int) api.Errno { return w.net.Copy(i) }

// Bend turns a byte of a packet (P13).
func (w *World) Bend(i int, at int, by int) api.Errno { return w.net.Bend(i, at, by) }

// Deliver hands a packet to its host (P14 to P16).
func (w *World) Deliver(i int) api.Errno {
	host, bytes, e := w.net.Land(i)
	if e != api.OK {
		return e
	}
	p, e := Open(bytes)
	if e != api.OK {
		// It was bent on its way: whoever sent it is not told, as if it was lost.
		return api.OK
	}
	w.hand(host, p)
	return api.OK
}

func (w *World) hand(host int, p api.Packet) {
	if host == api.Server {
		w.server.Take(p)
		return
	}
	w.clients[host].Take(p)
}

// Serve lets the server do a call (P17).
func (w *World) Serve() api.Errno { return w.server.Serve() }

// Log tells how many calls a service has done (P18).
func (w *World) Log(uid int) (int, api.Errno) { return w.server.Log(uid) }

// Entry tells a call that a service has done (P18).
func (w *World) Entry(uid int, k int) (api.Entry, api.Errno) { return w.server.Entry(uid, k) }

// Crash lets a host begin anew (P19).
func (w *World) Crash(host int) api.Errno {
	if host == api.Server {
		w.server.Crash()
		return api.OK
	}
	if !w.hasClient(host) {
		return api.ErrClient
	}
	return w.clients[host].Crash()
}
