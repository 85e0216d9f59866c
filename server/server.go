// Package server: the host that has the services, and the registry of their names.
package server

import (
	"strings"

	"errand/api"
	"errand/service"
)

// Server is that host.
type Server struct {
	names map[string]int // the registry: the uid of the service for which each name stands
	made  []made         // every service that was made, that with the uid 1 first
}

// made is what is known of a service that was made.
type made struct {
	kind  int
	alive bool
}

// New makes a server without services and names.
func New() *Server {
	return &Server{names: map[string]int{}}
}

// Export begins a service under a name, in the place of the one that is there.
func (s *Server) Export(name string, kind int) (int, api.Errno) {
	if !isName(name) {
		return 0, api.ErrName
	}
	if !service.IsKind(kind) {
		return 0, api.ErrArg
	}
	before, isThere := s.names[name]
	if !isThere && len(s.names) == api.MaxNames {
		return 0, api.ErrFull
	}
	if len(s.made) == api.MaxUid {
		return 0, api.ErrSpent
	}
	if isThere {
		s.end(before)
	}
	uid := s.begin(kind)
	// A copy: the registry must not hold on to what was handed in.
	s.names[strings.Clone(name)] = uid
	return uid, api.OK
}

// Withdraw ends the service under a name.
func (s *Server) Withdraw(name string) api.Errno {
	uid, isThere := s.names[name]
	if !isThere {
		return api.ErrName
	}
	delete(s.names, name)
	s.end(uid)
	return api.OK
}

// Find tells the uid and the kind of the service under a name.
func (s *Server) Find(name string) (int, int, api.Errno) {
	uid, isThere := s.names[name]
	if !isThere {
		return 0, 0, api.ErrName
	}
	return uid, s.service(uid).kind, api.OK
}

func (s *Server) begin(kind int) int {
	s.made = append(s.made, made{kind: kind, alive: true})
	return len(s.made)
}

func (s *Server) end(uid int) {
	s.service(uid).alive = false
}

func (s *Server) service(uid int) *made { return &s.made[uid-1] }

func isName(name string) bool {
	if len(name) < 1 || len(name) > api.MaxName {
		return false
	}
	for i := range len(name) {
		if name[i] < 'a' || name[i] > 'z' {
			return false
		}
	}
	return true
}
