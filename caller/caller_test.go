package caller

import (
	"slices"
	"testing"

	"errand/api"
	"errand/network"
	"errand/packet"
)

// newCalling is client 2 with a call of a Board under way on its line 1: three pieces, 0 0 0 14 and fourteen letters.
func newCalling(t *testing.T) (*Client, *network.Network) {
	t.Helper()
	net := &network.Network{}
	c := New(2, api.Config{Clients: 3, Lines: 2, Retry: 2, Tries: 1, Table: 1}, net)
	c.Bind(7, api.Board)
	if seq, e := c.Call(1, 7, 0, []api.Item{{S: "abcdefghijklmn"}}); seq != 1 || e != api.OK {
		t.Fatalf("Call = %d, %d", seq, e)
	}
	return c, net
}

func testLast(t *testing.T, net *network.Network, count int, want api.Packet) {
	t.Helper()
	want.Client, want.Life, want.Line, want.Seq, want.Uid = 2, 1, 1, 1, 7
	host, s, e := net.Show(count - 1)
	if net.Flying() != count || host != api.Server || s != packet.Write(want) || e != api.OK {
		t.Errorf("P12: %d packets fly, the last one to %d is %v, want %d, %v", net.Flying(), host, []byte(s), count, []byte(packet.Write(want)))
	}
}

func TestPiecesAreSentAgain(t *testing.T) {
	for acked, want := range []api.Packet{
		{Kind: api.Call, Part: 0, Of: 3, Please: true, Body: "\x00\x00\x00\x0eabcd"},
		{Kind: api.Call, Part: 1, Of: 3, Please: true, Body: "efghijkl"},
		{Kind: api.Call, Part: 2, Of: 3, Please: true, Body: "mn"},
		{Kind: api.Probe, Part: 0, Of: 1, Please: true},
	} {
		c, net := newCalling(t)
		c.lines[1].call.acked = acked
		c.Tick()
		if n := net.Flying(); n != 1 {
			t.Errorf("P12: ahead of the end of the wait %d packets fly", n)
		}
		c.Tick()
		testLast(t, net, 2, want)
		c.Tick()
		c.Tick()
		if s, _ := c.Status(1); s.State != api.Timeout || net.Flying() != 2 {
			t.Errorf("P12: behind the last try the State is %d, %d packets fly", s.State, net.Flying())
		}
	}
}

func TestPiecesAreSentAtFirst(t *testing.T) {
	for acked, want := range []api.Packet{
		{Kind: api.Call, Part: 0, Of: 3, Please: true, Body: "\x00\x00\x00\x0eabcd"},
		{Kind: api.Call, Part: 1, Of: 3, Please: true, Body: "efghijkl"},
		{Kind: api.Call, Part: 2, Of: 3, Please: false, Body: "mn"},
	} {
		c, net := newCalling(t)
		c.lines[1].call.acked = acked
		c.sendPiece(1, false)
		testLast(t, net, 2, want)
	}
}

func TestACallRestsAnew(t *testing.T) {
	c, net := newCalling(t)
	for range 3 {
		c.Tick()
		c.Tick()
		c.restAnew(&c.lines[1])
	}
	c.Tick()
	c.Tick()
	c.Tick()
	if s, _ := c.Status(1); s.State != api.Waiting || net.Flying() != 5 {
		t.Errorf("P12: the State is %d, %d packets fly", s.State, net.Flying())
	}
	c.Tick()
	if s, _ := c.Status(1); s.State != api.Timeout {
		t.Errorf("P12: the State is %d", s.State)
	}
}

func TestStatusTellsAResult(t *testing.T) {
	c, _ := newCalling(t)
	want := []api.Item{{N: 2}, {S: "a"}, {S: "b"}}
	c.lines[1] = line{state: api.Done, seq: 1, result: append(make([]api.Item, 0, 9), want...)}
	for range 3 {
		s, e := c.Status(1)
		if s.State != api.Done || s.Seq != 1 || !slices.Equal(s.Result, want) || e != api.OK {
			t.Fatalf("P11: Status = %+v, %d", s, e)
		}
		for i := range s.Result[:cap(s.Result)] {
			s.Result[:cap(s.Result)][i] = api.Item{N: 99, S: "written"}
		}
		if behind := c.lines[1].result[:9]; behind[8] != (api.Item{}) {
			t.Fatalf("P2: what stands behind the result was written into: %v", behind)
		}
	}
	c.Call(1, 7, 1, []api.Item{{N: 4}})
	if s, e := c.Status(1); s.State != api.Waiting || s.Seq != 2 || len(s.Result) != 0 || e != api.OK {
		t.Errorf("P11: Status of the next call = %+v, %d", s, e)
	}
}

// TestACrash: nothing of the life before is left, but for what flies.
func TestACrash(t *testing.T) {
	c, net := newCalling(t)
	c.Call(0, 7, 1, []api.Item{{N: 4}})
	c.Take(api.Packet{Kind: api.Result, Client: 2, Life: 1, Line: 0, Seq: 1, Uid: 7, Part: 0, Of: 1, Body: "\x00\x01\x00\x00"})
	if s, _ := c.Status(0); s.State != api.Done {
		t.Fatalf("P14: the State is %d", s.State)
	}
	if e := c.Crash(); e != api.OK || c.life != 2 || len(c.bound) != 0 || len(c.lines) != 2 || net.Flying() != 2 {
		t.Fatalf("P19: Crash() = %d, the client is %+v, %d packets fly", e, c, net.Flying())
	}
	for number := range c.lines {
		if s, e := c.Status(number); s.State != api.Idle || s.Seq != 0 || len(s.Result) != 0 || e != api.OK {
			t.Errorf("P19: Status(%d) behind a crash = %+v, %d", number, s, e)
		}
	}
	if seq, e := c.Call(1, 7, 1, []api.Item{{N: 4}}); seq != 0 || e != api.ErrBound {
		t.Errorf("P19: Call behind a crash = %d, %d", seq, e)
	}
}

func TestTheLastLifeStays(t *testing.T) {
	c, _ := newCalling(t)
	for range api.MaxLife - 1 {
		if e := c.Crash(); e != api.OK {
			t.Fatalf("P19: Crash() in life %d = %d", c.life, e)
		}
	}
	c.Bind(7, api.Board)
	c.Call(1, 7, 1, []api.Item{{N: 4}})
	if e := c.Crash(); e != api.ErrSpent || c.life != api.MaxLife {
		t.Errorf("P19: Crash() in the last life = %d, the life is %d", e, c.life)
	}
	if s, _ := c.Status(1); s.State != api.Waiting || s.Seq != 1 || len(c.bound) != 1 {
		t.Errorf("P1: a Crash that was refused has changed the client: %+v", s)
	}
}
