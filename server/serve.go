package server

import (
	"slices"

	"errand/api"
	"errand/service"
)

// Serve does the first call in the queue that still waits.
func (s *Server) Serve() api.Errno {
next:
	c, isThere := s.takeJob()
	if !isThere {
		return api.ErrIdle
	}
	if !s.waits(c) {
		goto next
	}
	s.do(s.lines[c.client][c.line])
	return api.OK
}

// putJob puts a call into the queue, and tells whether there was room.
func (s *Server) putJob(c call) bool {
	select {
	case s.jobs <- c:
		return true
	default:
		return false
	}
}

// takeJob takes the first call out of the queue, and tells whether there was one.
func (s *Server) takeJob() (call, bool) {
	select {
	case c := <-s.jobs:
		return c, true
	default:
		return call{}, false
	}
}

// waits tells whether a call still waits to be done: its line may have become void, or forgotten, or that of another call since.
func (s *Server) waits(c call) bool {
	l := s.lines[c.client][c.line]
	return l != nil && l.call == c && l.state == waiting
}

func (s *Server) do(l *line) {
	m := s.service(l.call.uid)
	proc, arg := service.ReadCall(m.kind, l.asked)
	result := m.works.Do(proc, arg)
	m.done = append(m.done, entryOf(l.call, proc, arg, result))
	l.endAnswered(service.WriteResult(m.kind, proc, result))
	s.sendAnswer(l)
}

func entryOf(c call, proc int, arg []api.Item, result []api.Item) api.Entry {
	return api.Entry{Client: c.client, Life: c.life, Line: c.line, Seq: c.seq, Proc: proc, Arg: arg, Result: result}
}

// Log tells how many calls a service has done.
func (s *Server) Log(uid int) (int, api.Errno) {
	if !s.wasMade(uid) {
		return 0, api.ErrArg
	}
	return len(s.service(uid).done), api.OK
}

// Entry tells a call that a service has done.
func (s *Server) Entry(uid int, k int) (api.Entry, api.Errno) {
	count, e := s.Log(uid)
	if e != api.OK || k < 0 || k >= count {
		return api.Entry{}, api.ErrArg
	}
	entry := s.service(uid).done[k]
	// Copies: whoever asks may write into them.
	entry.Arg = slices.Clone(entry.Arg)
	entry.Result = slices.Clone(entry.Result)
	return entry, api.OK
}
