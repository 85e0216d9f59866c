package server

import (
	"errand/api"
	"errand/message"
)

// The Parts of a Reject.
const (
	notAlive = 0
	noRoom   = 1
)

// Take takes a packet that came. One of an earlier life of its client is of a call that nobody waits for.
func (s *Server) Take(p api.Packet) {
	if p.Life < s.lives[p.Client] {
		return
	}
	if p.Life > s.lives[p.Client] {
		s.lives[p.Client] = p.Life
		s.lines[p.Client] = [api.MaxLines]*line{}
	}
	l := s.lines[p.Client][p.Line]
	switch p.Kind {
	case api.Got:
		s.takeGot(l, p)
	case api.Call, api.Probe:
		s.takeAsking(l, p)
	}
}

func (s *Server) takeGot(l *line, p api.Packet) {
	if l == nil || l.call.seq != p.Seq || l.state != answered {
		return
	}
	if p.Of != l.answer.Pieces() || p.Part != l.at || l.isAtLast() {
		return
	}
	l.at++
	s.sendAnswer(l)
}

// takeAsking takes a Call or a Probe; one of an earlier call than the line's does nothing, as that is not to be done any more.
func (s *Server) takeAsking(l *line, p api.Packet) {
	switch {
	case l == nil || l.call.seq < p.Seq:
		s.takeNew(l, p)
	case l.call.seq == p.Seq:
		s.takeKnown(l, p)
	}
}

// takeNew takes what comes of a call that the server does not know; l is what it remembers of that line.
func (s *Server) takeNew(l *line, p api.Packet) {
	if !s.isAlive(p.Uid) {
		s.sendReject(p, notAlive)
		return
	}
	if p.Kind == api.Probe || p.Part != 0 {
		return
	}
	if l == nil && len(s.remembered()) == s.config.Table {
		s.sendReject(p, noRoom)
		return
	}
	l = &line{call: callOf(p)}
	s.lines[p.Client][p.Line] = l
	s.gather(l, p)
}

// takeKnown takes what comes of the call that the line has.
func (s *Server) takeKnown(l *line, p api.Packet) {
	switch l.state {
	case void:
		s.sendReject(p, notAlive)
	case answered:
		if p.Please {
			s.sendAnswer(l)
		}
	case waiting:
		if p.Please {
			s.sendSign(p)
		}
	case gathering:
		if p.Kind == api.Call {
			s.gather(l, p)
		}
	}
}

// gather takes the pieces of a call in their order; one that has come is acknowledged again, as the Ack may have been lost.
func (s *Server) gather(l *line, p api.Packet) {
	come := l.asked.Pieces()
	if p.Part > come {
		return
	}
	if p.Part == come && !s.add(l, p) {
		return
	}
	if p.Please {
		s.sendSign(p)
	}
}

// add adds the piece that a line wants, and tells whether it could: the last one is not taken where there is no room for the job, so the client sends it again.
func (s *Server) add(l *line, p api.Packet) bool {
	isLast := p.Part == p.Of-1
	if isLast && !s.putJob(l.call) {
		return false
	}
	l.asked += message.Message(p.Body)
	if isLast {
		l.state = waiting
	}
	return true
}
