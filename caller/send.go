package caller

import "errand/api"

// Tick lets a tick go by for each call that is under way, in the order of lines.
func (c *Client) Tick() {
	for number := range c.lines {
		if c.lines[number].state == api.Waiting {
			c.wait(number)
		}
	}
}

func (c *Client) wait(number int) {
	l := &c.lines[number]
	l.call.wait--
	if l.call.wait > 0 {
		return
	}
	if l.call.tries > 0 {
		goto sending
	}
	l.end(api.Timeout)
	return

sending:
	l.call.tries--
	l.call.wait = c.retry
	c.sendAgain(number)
}

// restAnew gives a call its whole wait and all its tries.
func (c *Client) restAnew(l *line) {
	l.call.wait = c.retry
	l.call.tries = c.tries
}

// sendAgain sends the piece that no Ack has come for; where there is none, it asks whether the server still knows the call.
func (c *Client) sendAgain(number int) {
	l := c.lines[number]
	if l.call.acked < l.call.message.Pieces() {
		c.sendPiece(number, true)
		return
	}
	c.send(number, api.Packet{Kind: api.Probe, Of: 1, Please: true})
}

// sendPiece sends the first piece that was not acknowledged. The last one asks for no Ack at first: the result is soon to tell that it came.
func (c *Client) sendPiece(number int, again bool) {
	l := c.lines[number]
	part, of := l.call.acked, l.call.message.Pieces()
	isLast := part == of-1
	c.send(number, api.Packet{
		Kind:   api.Call,
		Part:   part,
		Of:     of,
		Please: again || !isLast,
		Body:   l.call.message.Piece(part),
	})
}

// sendGot acknowledges a piece of the result.
func (c *Client) sendGot(piece api.Packet) {
	c.send(piece.Line, api.Packet{Kind: api.Got, Part: piece.Part, Of: piece.Of})
}

func (c *Client) send(number int, p api.Packet) {
	l := c.lines[number]
	p.Client = c.number
	p.Life = c.life
	p.Line = number
	p.Seq = l.seq
	p.Uid = l.call.uid
	c.net.Send(api.Server, p)
}
