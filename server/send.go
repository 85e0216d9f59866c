package server

import "errand/api"

// Tick lets a tick go by for each line that waits for a Got.
func (s *Server) Tick() {
	for _, l := range s.remembered() {
		if l.wait > 0 {
			s.wait(l)
		}
	}
}

func (s *Server) wait(l *line) {
	l.wait--
	if l.wait > 0 {
		return
	}
	if l.tries > 0 {
		goto sending
	}
	return

sending:
	l.tries--
	l.wait = s.config.Retry
	s.sendPiece(l)
}

// sendAnswer sends the piece of the result at which the line is, and waits for its Got; for the last one there is none: the client has its result then.
func (s *Server) sendAnswer(l *line) {
	s.sendPiece(l)
	if l.isAtLast() {
		l.wait = 0
		return
	}
	l.wait, l.tries = s.config.Retry, s.config.Tries
}

func (s *Server) sendPiece(l *line) {
	s.send(l.call, api.Packet{Kind: api.Result, Part: l.at, Of: l.answer.Pieces(), Body: l.answer.Piece(l.at)})
}

// sendSign tells that a Call's piece has come, or to a Probe that the call is known.
func (s *Server) sendSign(p api.Packet) {
	sign := api.Packet{Kind: api.Ack, Part: p.Part, Of: p.Of}
	if p.Kind == api.Probe {
		sign = api.Packet{Kind: api.Alive, Of: 1}
	}
	s.send(callOf(p), sign)
}

func (s *Server) sendReject(p api.Packet, why int) {
	s.send(callOf(p), api.Packet{Kind: api.Reject, Part: why, Of: 2})
}

func (s *Server) send(c call, p api.Packet) {
	p.Client = c.client
	p.Life = c.life
	p.Line = c.line
	p.Seq = c.seq
	p.Uid = c.uid
	s.net.Send(c.client, p)
}
