package server

import (
	"testing"

	"errand/api"
	"errand/network"
)

func newServer() *Server {
	return New(api.Config{Clients: 3, Lines: 3, Retry: 1, Tries: 1, Table: 1}, &network.Network{})
}

func testAlive(t *testing.T, s *Server, want ...bool) {
	t.Helper()
	if len(s.made) != len(want) {
		t.Fatalf("P10: %d services were made, want %d", len(s.made), len(want))
	}
	for i := range s.made {
		if s.isAlive(i+1) != want[i] {
			t.Errorf("P10: service %d: alive is %t", i+1, s.isAlive(i+1))
		}
	}
}

func TestServicesEnd(t *testing.T) {
	s := newServer()
	s.Export("sum", api.Counter)
	s.Export("wall", api.Board)
	testAlive(t, s, true, true)
	s.Export("sum", api.Desk)
	testAlive(t, s, false, true, true)
	s.Withdraw("wall")
	testAlive(t, s, false, false, true)
	s.Export("wall", api.Counter)
	s.Withdraw("none")
	testAlive(t, s, false, false, true, true)
}

func TestARefusedExportEndsNothing(t *testing.T) {
	s := newServer()
	for range api.MaxUid {
		s.Export("sum", api.Counter)
	}
	for _, kind := range []int{api.Counter, 3} {
		if uid, e := s.Export("sum", kind); uid != 0 || e == api.OK {
			t.Errorf("P10: Export = %d, %d", uid, e)
		}
	}
	if len(s.made) != api.MaxUid || !s.isAlive(api.MaxUid) {
		t.Errorf("P1: an Export that was refused has ended the service")
	}
}

// TestACrashForgets: of all that was asked, nothing is left; who did what, and the names, are.
func TestACrashForgets(t *testing.T) {
	s := newServer()
	s.Export("sum", api.Counter)
	s.Export("wall", api.Board)
	for seq := 1; seq <= 2; seq++ {
		s.Take(api.Packet{Kind: api.Call, Client: 2, Life: 7, Line: 2, Seq: seq, Uid: 1, Part: 0, Of: 1, Body: "\x00\x00\x00\x05"})
		if seq == 1 {
			s.Serve()
		}
	}
	if len(s.remembered()) != 1 || s.lives[2] != 7 || len(s.jobs) != 1 {
		t.Fatalf("P15: ahead of a crash: %d lines, lives %v, %d jobs", len(s.remembered()), s.lives, len(s.jobs))
	}
	s.Crash()
	testAlive(t, s, false, false)
	if len(s.remembered()) != 0 || s.lives != [api.MaxClients]int{} || len(s.jobs) != 0 || cap(s.jobs) != 1 {
		t.Errorf("P19: behind a crash: %d lines, lives %v, %d jobs, room for %d", len(s.remembered()), s.lives, len(s.jobs), cap(s.jobs))
	}
	if n, e := s.Log(1); n != 1 || e != api.OK {
		t.Errorf("P18: Log(1) behind a crash = %d, %d", n, e)
	}
	if uid, kind, e := s.Find("wall"); uid != 2 || kind != api.Board || e != api.OK {
		t.Errorf("P10: Find behind a crash = %d, %d, %d", uid, kind, e)
	}
	s.Export("wall", api.Counter)
	testAlive(t, s, false, false, true)
}
