// Package server: the host that has the services, and the registry of their names.
package server

import (
	"strings"

	"errand/api"
	"errand/network"
	"errand/service"
)

// Server is that host.
type Server struct {
	config api.Config
	names  map[string]int // the registry: the uid of the service for which each name stands
	made   []made         // every service that was made, that with the uid 1 first
	memory
	net *network.Network
}

// memory is what the server knows of the clients' calls, until it crashes.
type memory struct {
	lives [api.MaxClients]int                 // of each client, the greatest life of which a packet came
	lines [api.MaxClients][api.MaxLines]*line // those that it remembers, of each client; nil: not this one
	jobs  chan call                           // the calls that wait to be done, or waited when they were put in
}

// newMemory is that of a server to which nothing has come.
func newMemory(table int) memory { return memory{jobs: make(chan call, table)} }

// made is what is known of a service that was made.
type made struct {
	kind  int
	works service.Service // what does its calls, with its state; nil: it is no longer alive
	done  []api.Entry     // the calls that it has done
}

// New makes a server without services and names.
func New(c api.Config, net *network.Network) *Server {
	return &Server{config: c, names: map[string]int{}, memory: newMemory(c.Table), net: net}
}

// Export begins a service under a name, in the place of the one that is there.
func (s *Server) Export(name string, kind int) (int, api.Errno) {
	if !isName(name) {
		return 0, api.ErrName
	}
	if !service.IsKind(kind) {
		return 0, api.ErrArg
	}
	before, isThere := s.names[name]
	if !isThere && len(s.names) == api.MaxNames {
		return 0, api.ErrFull
	}
	if len(s.made) == api.MaxUid {
		return 0, api.ErrSpent
	}
	if isThere {
		s.end(before)
	}
	uid := s.begin(kind)
	// A copy: the registry must not hold on to what was handed in.
	s.names[strings.Clone(name)] = uid
	return uid, api.OK
}

// Withdraw ends the service under a name.
func (s *Server) Withdraw(name string) api.Errno {
	uid, isThere := s.names[name]
	if !isThere {
		return api.ErrName
	}
	delete(s.names, name)
	s.end(uid)
	return api.OK
}

// Find tells the uid and the kind of the service under a name.
func (s *Server) Find(name string) (int, int, api.Errno) {
	uid, isThere := s.names[name]
	if !isThere {
		return 0, 0, api.ErrName
	}
	return uid, s.service(uid).kind, api.OK
}

func (s *Server) begin(kind int) int {
	s.made = append(s.made, made{kind: kind, works: service.New(kind)})
	return len(s.made)
}

// end ends a service: what it was asked for and has not done, it never does.
func (s *Server) end(uid int) {
	s.service(uid).works = nil
	for _, l := range s.remembered() {
		if l.call.uid == uid && l.state != answered {
			l.endVoid()
		}
	}
}

// Crash ends all services, and lets the server forget what it was asked for; if it is asked for that again, it is not done twice, as the service is dead. The registry and the logs stay.
func (s *Server) Crash() {
	for i := range s.made {
		s.end(i + 1)
	}
	s.memory = newMemory(s.config.Table)
}

func (s *Server) service(uid int) *made { return &s.made[uid-1] }

func (s *Server) wasMade(uid int) bool { return uid >= 1 && uid <= len(s.made) }

func (s *Server) isAlive(uid int) bool { return s.wasMade(uid) && s.service(uid).works != nil }

func isName(name string) bool {
	if len(name) < 1 || len(name) > api.MaxName {
		return false
	}
	for i := range len(name) {
		if name[i] < 'a' || name[i] > 'z' {
			return false
		}
	}
	return true
}
