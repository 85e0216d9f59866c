// Package caller: the clients, the hosts that call.
package caller

import (
	"slices"

	"errand/api"
	"errand/network"
	"errand/service"
)

// Client is a host that calls.
type Client struct {
	number int
	life   int
	bound  map[int]int // by uid, the kind of each service to which it is bound
	lines  []line
	retry  int // what a wait begins with
	tries  int // what the tries begin with
	net    *network.Network
}

// New makes a client in its first life.
func New(number int, c api.Config, net *network.Network) *Client {
	return &Client{
		number: number,
		life:   1,
		bound:  map[int]int{},
		lines:  make([]line, c.Lines),
		retry:  c.Retry,
		tries:  c.Tries,
		net:    net,
	}
}

// Bind lets the client call a service from now on.
func (c *Client) Bind(uid int, kind int) {
	c.bound[uid] = kind
}

// Call begins a call, and tells its seq; it gives up with a Fault if there is no such procedure, or arg is no value of its argument's type.
func (c *Client) Call(number int, uid int, proc int, arg []api.Item) (int, api.Errno) {
	if !c.hasLine(number) {
		return 0, api.ErrLine
	}
	kind, isBound := c.bound[uid]
	if !isBound {
		return 0, api.ErrBound
	}
	// Ahead of the line's own errors: it may give up, and a wrong procedure or argument is named first.
	m := service.WriteCall(kind, proc, arg)
	l := &c.lines[number]
	if l.state == api.Waiting {
		return 0, api.ErrBusy
	}
	if l.seq == api.MaxSeq {
		return 0, api.ErrSpent
	}
	l.begin(call{uid: uid, proc: proc, message: m})
	c.restAnew(l)
	c.sendPiece(number, false)
	return l.seq, api.OK
}

// Status tells how a line is.
func (c *Client) Status(number int) (api.Status, api.Errno) {
	if !c.hasLine(number) {
		return api.Status{}, api.ErrLine
	}
	l := c.lines[number]
	return api.Status{State: l.state, Seq: l.seq, Result: slices.Clone(l.result)}, api.OK
}

// Crash begins the client's next life, which knows nothing of those before it.
func (c *Client) Crash() api.Errno {
	if c.life == api.MaxLife {
		return api.ErrSpent
	}
	c.life++
	clear(c.bound)
	clear(c.lines)
	return api.OK
}

func (c *Client) hasLine(number int) bool { return number >= 0 && number < len(c.lines) }
