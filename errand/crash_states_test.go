package errand_test

import (
	"fmt"
	"math/rand"
	"testing"

	"errand/api"
)

// configCrash has room for three of four lines.
var configCrash = api.Config{Clients: 2, Lines: 2, Retry: 3, Tries: 2, Table: 3}

func (b bothWorlds) ticks(n int) {
	b.t.Helper()
	for range n {
		b.tick()
		b.look("Tick")
	}
}

// passes delivers the packet that was sent last, that many times over; copies of all of them fly on.
func (b bothWorlds) passes(n int) {
	b.t.Helper()
	for range n {
		last := len(b.words.flying) - 1
		b.copy(last)
		b.deliver(last)
	}
}

// post makes a call of three pieces, whose result has one; display one of one piece, whose result has five; exchange one of two pieces, whose result has two.
func (b bothWorlds) post() {
	b.t.Helper()
	b.call(0, 0, 2, 0, items("abcdefghijklm"))
}

func (b bothWorlds) display() {
	b.t.Helper()
	b.call(0, 0, 2, 1, items(2))
}

func (b bothWorlds) exchange() {
	b.t.Helper()
	b.call(0, 0, 3, 0, items(1, 3, 7, 8, 9))
}

// crashCase lets the first call of client 0 on line 0 be in some state, and packets of it fly.
type crashCase struct {
	name string
	make func(bothWorlds)
}

func crashCases() []crashCase {
	return []crashCase{
		{"no call", func(b bothWorlds) {}},
		{"the first piece is sent", func(b bothWorlds) { b.post() }},
		{"the first piece is sent again", func(b bothWorlds) { b.post(); b.ticks(3) }},
		{"the only piece is sent", func(b bothWorlds) { b.display() }},
		{"gathering, no Ack came", func(b bothWorlds) { b.post(); b.passes(1) }},
		{"gathering, one Ack came", func(b bothWorlds) { b.post(); b.passes(2) }},
		{"gathering, two Acks came", func(b bothWorlds) { b.post(); b.passes(4) }},
		{"waiting, two of three Acks came", func(b bothWorlds) { b.post(); b.passes(5) }},
		{"waiting, all Acks came", func(b bothWorlds) { b.post(); b.passes(5); b.ticks(3); b.passes(2) }},
		{"waiting, an Alive came", func(b bothWorlds) {
			b.exchange()
			b.passes(3)
			b.ticks(3)
			b.passes(2)
			b.ticks(3)
			b.passes(2)
		}},
		{"answered, nothing came", func(b bothWorlds) { b.display(); b.passes(1); b.serve() }},
		{"answered, one piece came", func(b bothWorlds) { b.display(); b.passes(1); b.serve(); b.passes(1) }},
		{"answered, the second piece is sent again", func(b bothWorlds) { b.display(); b.passes(1); b.serve(); b.passes(2); b.ticks(3) }},
		{"answered, the last piece is sent", func(b bothWorlds) { b.display(); b.passes(1); b.serve(); b.passes(8) }},
		{"answered behind a Probe, one piece came", func(b bothWorlds) {
			b.exchange()
			b.passes(3)
			b.ticks(3)
			b.passes(2)
			b.ticks(3)
			b.passes(2)
			b.serve()
			b.passes(1)
		}},
		{"void", func(b bothWorlds) { b.post(); b.passes(5); b.export("wall", api.Board); b.ticks(3) }},
		{"done", func(b bothWorlds) { b.display(); b.passes(1); b.serve(); b.passes(9) }},
		{"timeout", func(b bothWorlds) { b.post(); b.passes(2); b.ticks(9) }},
		{"unbound", func(b bothWorlds) { b.exchange(); b.withdraw("desk"); b.passes(2) }},
		{"refused", func(b bothWorlds) {
			b.call(0, 1, 1, 0, items(5))
			b.call(1, 0, 1, 0, items(5))
			b.deliver(0)
			b.deliver(0)
			b.post()
			b.passes(2)
		}},
	}
}

// newCrash is a world in which two strings are on the Board and a list is in the Desk, with the call in that state; then the hosts crash.
func newCrash(t *testing.T, c crashCase, hosts []int) bothWorlds {
	t.Helper()
	b := newAll(t, configCrash)
	b.done(1, 1, 2, 0, items(fourteen), items(1))
	b.done(1, 1, 2, 0, items(fourteen), items(2))
	b.done(1, 1, 3, 0, items(1, 3, 1, 2, 3), items(0, 0))
	c.make(b)
	b.look(c.name)
	for _, host := range hosts {
		b.crash(host)
		b.look(fmt.Sprintf("Crash(%d), %s", host, c.name))
	}
	return b
}

// callAgain binds the client anew, to a service of before and to a new one, and makes a call on its line if it can.
func (b bothWorlds) callAgain(isNew bool) {
	b.t.Helper()
	if isNew {
		b.export("wall", api.Board)
	}
	b.call(0, 0, b.bind(0, "wall"), 0, items("abcdefghijklm"))
	b.look("Call behind a crash")
}

// goOn lets all calls end, and looks whether new ones are done by new services.
func (b bothWorlds) goOn() {
	b.t.Helper()
	b.deliverAll()
	for b.serve() == api.OK {
		b.deliverAll()
	}
	b.ticks(9)
	b.endCalls()
	uid := b.export("wall", api.Board)
	b.bind(0, "wall")
	b.bind(1, "wall")
	b.done(1, 1, uid, 0, items("hello"), items(1))
	b.done(0, 0, uid, 1, items(4), items(1, "hello"))
	b.lookAtLogs("all")
}

// testCrash lets the packets come behind the crashes, in the order that pick tells, and looks at all that becomes of that.
func testCrash(t *testing.T, c crashCase, hosts []int, again func(bothWorlds), count int, pick func(int) int) {
	t.Helper()
	b := newCrash(t, c, hosts)
	again(b)
	for range count {
		if len(b.words.flying) == 0 {
			break
		}
		i := pick(len(b.words.flying))
		b.deliver(i)
		b.look(fmt.Sprintf("%s, crashes of %v, Deliver(%d)", c.name, hosts, i))
	}
	b.goOn()
}

// TestACrashInEachState: of each host, with each packet that flew when it came behind it, alone and with the others, at a client that has made another call or not.
func TestACrashInEachState(t *testing.T) {
	r := rand.New(rand.NewSource(19))
	agains := []func(bothWorlds){
		func(bothWorlds) {},
		func(b bothWorlds) { b.callAgain(false) },
		func(b bothWorlds) { b.callAgain(true) },
	}
	for _, c := range crashCases() {
		flying := len(newCrash(t, c, nil).words.flying)
		for _, hosts := range [][]int{{-1}, {0}, {1}, {-1, 0}, {0, 0, -1}} {
			for _, again := range agains {
				for i := range flying {
					testCrash(t, c, hosts, again, 1, func(int) int { return i })
				}
				testCrash(t, c, hosts, again, flying, func(int) int { return 0 })
				testCrash(t, c, hosts, again, flying, func(n int) int { return n - 1 })
				testCrash(t, c, hosts, again, 2*flying, r.Intn)
			}
		}
	}
}
