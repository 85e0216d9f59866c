package server

import (
	"errand/api"
	"errand/message"
)

// call tells a call from all others, and the service that is called.
type call struct {
	client, life, line, seq, uid int
}

func callOf(p api.Packet) call {
	return call{client: p.Client, life: p.Life, line: p.Line, seq: p.Seq, uid: p.Uid}
}

// The states of a line.
const (
	gathering = iota
	waiting
	answered
	void
)

// line is what the server remembers of the call that it was last asked for on a line.
type line struct {
	call   call
	state  int
	asked  message.Message // what has come of the call's message, from the first piece on, until it is done
	answer message.Message // the result's, if it is done
	at     int             // the piece of that which was sent last
	wait   int             // how many ticks until it sends that again; 0: it waits for nothing
	tries  int             // how often it may still do that
}

func (l *line) endVoid() {
	*l = line{call: l.call, state: void}
}

func (l *line) endAnswered(answer message.Message) {
	*l = line{call: l.call, state: answered, answer: answer}
}

func (l *line) isAtLast() bool { return l.at == l.answer.Pieces()-1 }

// remembered are the lines that the server remembers, in the order of clients, and of one client's lines.
func (s *Server) remembered() []*line {
	var all []*line
	for _, lines := range s.lines {
		for _, l := range lines {
			if l != nil {
				all = append(all, l)
			}
		}
	}
	return all
}
