package server

import (
	"testing"

	"errand/api"
	"errand/network"
)

func newServer() *Server {
	return New(api.Config{Clients: 3, Lines: 3, Retry: 1, Tries: 1, Table: 1}, &network.Network{})
}

func testAlive(t *testing.T, s *Server, want ...bool) {
	t.Helper()
	if len(s.made) != len(want) {
		t.Fatalf("P10: %d services were made, want %d", len(s.made), len(want))
	}
	for i := range s.made {
		if s.isAlive(i+1) != want[i] {
			t.Errorf("P10: service %d: alive is %t", i+1, s.isAlive(i+1))
		}
	}
}

func TestServicesEnd(t *testing.T) {
	s := newServer()
	s.Export("sum", api.Counter)
	s.Export("wall", api.Board)
	testAlive(t, s, true, true)
	s.Export("sum", api.Desk)
	testAlive(t, s, false, true, true)
	s.Withdraw("wall")
	testAlive(t, s, false, false, true)
	s.Export("wall", api.Counter)
	s.Withdraw("none")
	testAlive(t, s, false, false, true, true)
}

func TestARefusedExportEndsNothing(t *testing.T) {
	s := newServer()
	for range api.MaxUid {
		s.Export("sum", api.Counter)
	}
	for _, kind := range []int{api.Counter, 3} {
		if uid, e := s.Export("sum", kind); uid != 0 || e == api.OK {
			t.Errorf("P10: Export = %d, %d", uid, e)
		}
	}
	if len(s.made) != api.MaxUid || !s.isAlive(api.MaxUid) {
		t.Errorf("P1: an Export that was refused has ended the service")
	}
}
