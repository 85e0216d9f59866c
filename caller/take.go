package caller

import (
	"errand/api"
	"errand/message"
	"errand/service"
)

// Take takes a packet that came. One that is not of a call under way comes too late to tell anything.
func (c *Client) Take(p api.Packet) {
	if !c.isUnderWay(p) {
		return
	}
	switch p.Kind {
	case api.Ack:
		c.takeAck(p)
	case api.Alive:
		c.restAnew(&c.lines[p.Line])
	case api.Result:
		c.takeResult(p)
	case api.Reject:
		c.takeReject(p)
	}
}

// isUnderWay tells whether the call of a packet is under way.
func (c *Client) isUnderWay(p api.Packet) bool {
	l := &c.lines[p.Line]
	return l.state == api.Waiting && c.life == p.Life && l.seq == p.Seq
}

func (c *Client) takeAck(p api.Packet) {
	l := &c.lines[p.Line]
	if p.Part != l.call.acked {
		return
	}
	l.call.acked++
	if l.call.acked < l.call.message.Pieces() {
		c.sendPiece(p.Line, false)
	}
	c.restAnew(l)
}

// takeResult takes the pieces of a result in their order; one that it has is acknowledged again, as the Got may have been lost.
func (c *Client) takeResult(p api.Packet) {
	l := &c.lines[p.Line]
	pieces, has := l.call.message.Pieces(), l.call.result.Pieces()
	if l.call.acked < pieces-1 || p.Part > has {
		return
	}
	if p.Part < has {
		c.sendGot(p)
		return
	}
	l.call.result += message.Message(p.Body)
	// A result tells that the whole call has come, so its last piece needs no Ack.
	l.call.acked = pieces
	if p.Part == p.Of-1 {
		l.endWith(service.ReadResult(c.bound[l.call.uid], l.call.proc, l.call.result))
		return
	}
	c.sendGot(p)
	c.restAnew(l)
}

func (c *Client) takeReject(p api.Packet) {
	l := &c.lines[p.Line]
	if p.Part == 0 {
		l.end(api.Unbound)
		return
	}
	l.end(api.Refused)
}
