package errand_test

import (
	"testing"

	"errand/api"
)

// kindsFlying are the kinds of the packets that fly, in their order.
func (b bothWorlds) kindsFlying() []int {
	var list []int
	for i := range b.world.Flying() {
		_, s, _ := b.world.Show(i)
		list = append(list, packetByWords(s).Kind)
	}
	return list
}

// deliverAll delivers what flies, in its order, and what is sent for that, until nothing flies.
func (b bothWorlds) deliverAll() {
	b.t.Helper()
	for range 1000 {
		if len(b.words.flying) == 0 {
			return
		}
		b.deliver(0)
		b.look("Deliver(0)")
	}
	b.t.Fatalf("P21: something flies for ever")
}

// done makes a call, lets it be done, and looks whether its result is that one.
func (b bothWorlds) done(client, line, uid, proc int, arg, result []api.Item) {
	b.t.Helper()
	if e := b.call(client, line, uid, proc, arg); e != api.OK {
		b.t.Fatalf("P11: Call(%d, %d, %d, %d, %v) = %d", client, line, uid, proc, arg, e)
	}
	b.deliverAll()
	if e := b.serve(); e != api.OK {
		b.t.Fatalf("P17: Serve() = %d", e)
	}
	b.deliverAll()
	if s, e := b.world.Status(client, line); s.State != api.Done || !same(s.Result, result) || e != api.OK {
		b.t.Errorf("P14: behind Call(%d, %d, %d, %d, %v) Status is %+v, %d, want the result %v", client, line, uid, proc, arg, s, e, result)
	}
}

func TestTheExampleIsDone(t *testing.T) {
	b := newW(t)
	w := b.world
	w.Call(0, 0, 1, 0, items(5))
	if e := w.Deliver(0); e != api.OK || w.Flying() != 0 {
		t.Fatalf("P16: Deliver(0) = %d, %d packets fly", e, w.Flying())
	}
	if e := w.Serve(); e != api.OK {
		t.Fatalf("P17: Serve() = %d", e)
	}
	want := string([]byte{5, 0, 1, 0, 0, 1, 1, 0, 1, 0, 2, 0, 5, 5, 157})
	if host, s, e := w.Show(0); host != 0 || s != want || e != api.OK || w.Flying() != 1 {
		t.Fatalf("P17: Show(0) = %d, %v, %d, %d packets fly", host, []byte(s), e, w.Flying())
	}
	if e := w.Deliver(0); e != api.OK || w.Flying() != 0 {
		t.Fatalf("P14: Deliver(0) = %d, %d packets fly", e, w.Flying())
	}
	if s, e := w.Status(0, 0); s.State != api.Done || s.Seq != 1 || !same(s.Result, items(5)) || e != api.OK {
		t.Errorf("P14: Status = %+v, %d", s, e)
	}
	if n, e := w.Log(1); n != 1 || e != api.OK {
		t.Errorf("P18: Log(1) = %d, %d", n, e)
	}
	entry := api.Entry{Client: 0, Life: 1, Line: 0, Seq: 1, Proc: 0, Arg: items(5), Result: items(5)}
	if x, e := w.Entry(1, 0); !sameEntry(x, entry) || e != api.OK {
		t.Errorf("P18: Entry(1, 0) = %+v, %d", x, e)
	}
}

func TestACopyDoesNothing(t *testing.T) {
	b := newW(t)
	b.call(0, 0, 1, 0, items(5))
	b.copy(0)
	b.copy(0)
	b.copy(0)
	b.deliver(0)
	b.deliver(0)
	b.look("a copy")
	b.serve()
	b.deliver(0)
	b.look("a copy behind Serve")
	b.copy(1)
	b.deliver(1)
	b.look("the Result")
	b.deliver(0)
	b.look("a copy behind the Result")
	b.deliver(0)
	b.look("a copy of the Result")
	if e := b.serve(); e != api.ErrIdle || b.world.Flying() != 0 {
		t.Errorf("P17: Serve() = %d, %d packets fly", e, b.world.Flying())
	}
	if n := b.log("all", 1); n != 1 {
		t.Errorf("P16: the call was done %d times", n)
	}
}

func TestPiecesOfTheExample(t *testing.T) {
	b := newAll(t, configW)
	b.call(0, 0, 2, 0, items("hello"))
	for i, want := range []struct {
		host int
		p    api.Packet
	}{
		{api.Server, api.Packet{Kind: api.Call, Part: 0, Of: 2, Please: true, Body: "\x00\x00\x00\x05hell"}},
		{0, api.Packet{Kind: api.Ack, Part: 0, Of: 2}},
		{api.Server, api.Packet{Kind: api.Call, Part: 1, Of: 2, Body: "o\x00"}},
	} {
		want.p.Life, want.p.Seq, want.p.Uid = 1, 1, 2
		if host, s, _ := b.world.Show(0); host != want.host || s != packetBytes(want.p) || b.world.Flying() != 1 {
			t.Errorf("P12: packet %d to %d is %v, want %s", i, host, []byte(s), told(want.p))
		}
		b.deliver(0)
	}
	b.look("the last piece")
	b.serve()
	b.deliverAll()
	b.done(0, 0, 2, 1, items(9), items(1, "hello"))
}

func TestNoPacketToDeliver(t *testing.T) {
	for _, count := range []int{0, 1, 2, 40} {
		b := newFlying(t, count)
		for _, i := range noPlaces(count) {
			if b.words.isFlying(i) {
				continue
			}
			if e := b.world.Deliver(i); e != api.ErrArg {
				t.Errorf("P14: Deliver(%d) of %d = %d", i, count, e)
			}
		}
		b.look("Delivers that were refused")
	}
}

// TestDeliverMovesUp: any of the packets may be delivered, and those behind it move up.
func TestDeliverMovesUp(t *testing.T) {
	for i := range 4 {
		b := newAll(t, api.Config{Clients: 2, Lines: 2, Retry: 3, Tries: 2, Table: 4})
		for n := range 4 {
			b.call(n/2, n%2, 2, 0, items(fourteen[:4+n*3]))
		}
		b.look("calls")
		b.deliver(i)
		b.look("Deliver")
		b.deliver(3)
		b.look("Deliver of the Ack")
		b.deliverAll()
		for range 4 {
			b.serve()
			b.look("Serve")
		}
		b.deliverAll()
	}
}

// newSending is a world in which a packet of that kind flies, to the server or to client 0, alone.
func newSending(t *testing.T, kind int) bothWorlds {
	t.Helper()
	b := newAll(t, configW)
	for range 2 {
		b.done(0, 0, 2, 0, items(fourteen), b.wordsPosts())
	}
	ticks := func(n int) {
		for range n {
			b.tick()
		}
	}
	switch kind {
	case api.Call:
		b.call(0, 0, 2, 1, items(2))
	case api.Ack:
		b.call(0, 0, 2, 0, items("hello"))
		b.deliver(0)
	case api.Probe, api.Alive:
		b.call(0, 0, 2, 1, items(2))
		b.deliver(0)
		ticks(3)
		b.deliver(0)
		b.deliver(0)
		ticks(3)
		if kind == api.Alive {
			b.deliver(0)
		}
	case api.Result, api.Got:
		b.call(0, 0, 2, 1, items(2))
		b.deliver(0)
		b.serve()
		if kind == api.Got {
			b.deliver(0)
		}
	case api.Reject:
		b.call(0, 0, 2, 1, items(2))
		b.withdraw("wall")
		b.deliver(0)
	}
	if kinds := b.kindsFlying(); len(kinds) != 1 || kinds[0] != kind {
		t.Fatalf("of kind %d alone: there fly %v", kind, kinds)
	}
	return b
}

// wordsPosts is what the Board is to tell when one string more is there.
func (b bothWorlds) wordsPosts() []api.Item {
	return items(min(4, len(b.words.server.services[1].posts)+1))
}

// TestBentPacketsDoNothing bends each kind of packet at each place.
func TestBentPacketsDoNothing(t *testing.T) {
	for kind := api.Call; kind <= api.Reject; kind++ {
		length := len(newSending(t, kind).words.flying[0].bytes)
		for at := range length {
			for _, by := range []int{1, 2, 3, 4, 8, 16, 64, 128, 254, 255} {
				b := newSending(t, kind)
				b.bend(0, at, by)
				b.deliver(0)
				b.look("a bent packet")
				if n := b.world.Flying(); n != 0 {
					t.Fatalf("P14: a packet of kind %d, bent at %d by %d: %d packets fly", kind, at, by, n)
				}
				if by == 1 {
					// Whatever was done would show when time goes on.
					for range 10 {
						b.tick()
						b.serve()
						b.look("Tick and Serve behind a bent packet")
					}
				}
			}
		}
	}
}

// TestWholePacketsBesideBentOnes: a packet's copy that is not bent does what it says.
func TestWholePacketsBesideBentOnes(t *testing.T) {
	for kind := api.Call; kind <= api.Reject; kind++ {
		b := newSending(t, kind)
		b.copy(0)
		b.bend(0, 5, 1)
		b.copy(0)
		b.deliver(0)
		b.deliver(1)
		b.look("two bent packets")
		b.deliver(0)
		b.look("a whole packet")
		for range 12 {
			b.tick()
			b.look("Tick")
		}
	}
}

// TestTheRoomOfWhatIsDelivered: a packet that is delivered flies no longer when what it asks for is sent.
func TestTheRoomOfWhatIsDelivered(t *testing.T) {
	for _, kind := range []int{api.Call, api.Ack, api.Probe, api.Result, api.Got} {
		b := newSending(t, kind)
		// One whole packet, and 39 that are not of its line.
		b.call(1, 1, 1, 0, items(7))
		for len(b.words.flying) < 40 {
			b.copy(1)
		}
		b.deliver(0)
		b.look("Deliver of one of 40")
		want := 40
		if kind == api.Call {
			want = 39
		}
		if n := b.world.Flying(); n != want {
			t.Errorf("P14: behind a packet of kind %d of 40 there fly %d, want %d", kind, n, want)
		}
	}
}

// TestServeWithoutRoom: the first piece of the result is lost, and the line waits all the same.
func TestServeWithoutRoom(t *testing.T) {
	b := newAll(t, configW)
	for range 2 {
		b.done(0, 0, 2, 0, items(fourteen), b.wordsPosts())
	}
	b.call(0, 0, 2, 1, items(2))
	b.deliver(0)
	b.call(1, 1, 1, 0, items(7))
	for len(b.words.flying) < 40 {
		b.copy(0)
	}
	if e := b.serve(); e != api.OK || b.world.Flying() != 40 {
		t.Fatalf("P17: Serve() = %d, %d packets fly", e, b.world.Flying())
	}
	b.look("Serve without room")
	b.drop(0)
	b.drop(0)
	b.drop(0)
	b.drop(0)
	for range 3 {
		b.tick()
		b.look("Tick behind Serve without room")
	}
	kinds := b.kindsFlying()
	if len(kinds) != 39 || kinds[36] != api.Call || kinds[37] != api.Call || kinds[38] != api.Result {
		t.Errorf("P17: there fly %v", kinds)
	}
	// Without room again, the tries go down.
	b.copy(0)
	for range 10 {
		b.tick()
		b.look("Tick without room")
	}
	for len(b.words.flying) > 0 {
		b.drop(0)
	}
	for range 10 {
		b.tick()
		b.look("Tick when all have given up")
	}
}

// TestLateAnswers: what comes behind the end of a call does nothing to the line, nor to its next call.
func TestLateAnswers(t *testing.T) {
	for _, kind := range []int{api.Ack, api.Alive, api.Result, api.Reject} {
		b := newSending(t, kind)
		for range 9 {
			b.tick()
		}
		for len(b.words.flying) > 1 {
			b.drop(1)
		}
		b.copy(0)
		b.deliver(0)
		b.look("an answer behind the Timeout")
		if s, _ := b.world.Status(0, 0); s.State != api.Timeout || len(s.Result) != 0 || b.world.Flying() != 1 {
			t.Errorf("P14: behind a packet of kind %d that is late: %+v", kind, s)
		}
		b.call(0, 0, 1, 0, items(5))
		b.deliver(0)
		b.look("an answer to an earlier call")
		if s, _ := b.world.Status(0, 0); s.State != api.Waiting || b.world.Flying() != 1 {
			t.Errorf("P14: behind a packet of kind %d of an earlier call: %+v", kind, s)
		}
		b.deliverAll()
		b.serve()
		b.deliverAll()
	}
}

// TestWorldsAreServedAlone: the queue, the table and the services of one world are nothing to another.
func TestWorldsAreServedAlone(t *testing.T) {
	one, two := newAll(t, configW), newAll(t, configW)
	for line := range 2 {
		one.call(0, line, 1, 0, items(1))
		one.deliver(0)
	}
	if e := two.serve(); e != api.ErrIdle {
		t.Errorf("P2: Serve in another world = %d", e)
	}
	two.done(0, 0, 1, 0, items(100), items(100))
	two.done(0, 1, 1, 0, items(100), items(200))
	two.withdraw("sum")
	one.serve()
	one.serve()
	one.deliverAll()
	if s, _ := one.world.Status(0, 1); s.State != api.Done || !same(s.Result, items(2)) {
		t.Errorf("P2: Status = %+v", s)
	}
	two.look("what was done in another world")
}
