// Package network: what flies between the hosts.
package network

import (
	"slices"

	"errand/api"
	"errand/packet"
)

// Network holds the packets that fly, in the order in which they were sent.
type Network struct {
	flying []flight
}

type flight struct {
	host  int // to which it flies
	bytes string
	bent  bool
}

// Send lets a packet fly to a host; where there is no room it is lost, and whoever sent it is not told.
func (n *Network) Send(host int, p api.Packet) {
	if n.isFull() {
		return
	}
	n.flying = append(n.flying, flight{host: host, bytes: packet.Write(p)})
}

// Flying tells how many packets fly.
func (n *Network) Flying() int { return len(n.flying) }

// Show tells where a packet flies to, and its bytes.
func (n *Network) Show(i int) (int, string, api.Errno) {
	if !n.has(i) {
		return 0, "", api.ErrArg
	}
	return n.flying[i].host, n.flying[i].bytes, api.OK
}

// Drop loses a packet.
func (n *Network) Drop(i int) api.Errno {
	_, _, e := n.Land(i)
	return e
}

// Land lets a packet fly no longer, and tells where it flew to, and its bytes.
func (n *Network) Land(i int) (int, string, api.Errno) {
	host, bytes, e := n.Show(i)
	if e != api.OK {
		return 0, "", e
	}
	n.flying = slices.Delete(n.flying, i, i+1)
	return host, bytes, api.OK
}

// Copy makes a packet fly twice.
func (n *Network) Copy(i int) api.Errno {
	if !n.has(i) {
		return api.ErrArg
	}
	if n.isFull() {
		return api.ErrFull
	}
	n.flying = append(n.flying, n.flying[i])
	return api.OK
}

// Bend turns a byte of a packet, once at most: Sixteen tells every change within one byte, but not every change of two.
func (n *Network) Bend(i int, at int, by int) api.Errno {
	if !n.has(i) {
		return api.ErrArg
	}
	f := &n.flying[i]
	if at < 0 || at >= len(f.bytes) || by < 1 || by > 255 {
		return api.ErrArg
	}
	if f.bent {
		return api.ErrBent
	}
	f.bytes = turned(f.bytes, at, byte(by))
	f.bent = true
	return api.OK
}

func (n *Network) has(i int) bool { return i >= 0 && i < len(n.flying) }

func (n *Network) isFull() bool { return len(n.flying) == api.MaxFlying }

func turned(s string, at int, by byte) string {
	b := []byte(s)
	b[at] ^= by
	return string(b)
}
