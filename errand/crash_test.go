package errand_test

import (
	"math"
	"testing"

	"errand/api"
)

// testStatus looks whether a line is just so.
func (b bothWorlds) testStatus(client, line, state, seq int, result ...api.Item) {
	b.t.Helper()
	if s, e := b.world.Status(client, line); s.State != state || s.Seq != seq || !same(s.Result, result) || e != api.OK {
		b.t.Errorf("P11: Status(%d, %d) = %+v, %d, want %d, %d, %v", client, line, s, e, state, seq, result)
	}
}

func TestCrashOfTheExample(t *testing.T) {
	w := newW(t).world
	w.Call(0, 0, 1, 0, items(5))
	if e := w.Crash(api.Server); e != api.OK || w.Flying() != 1 {
		t.Fatalf("P19: Crash(Server) = %d, %d packets fly", e, w.Flying())
	}
	w.Deliver(0)
	reject := packetBytes(api.Packet{Kind: api.Reject, Life: 1, Seq: 1, Uid: 1, Part: 0, Of: 2})
	if host, s, e := w.Show(0); host != 0 || s != reject || e != api.OK || w.Flying() != 1 {
		t.Errorf("P16: Show(0) = %d, %v, %d, %d packets fly", host, []byte(s), e, w.Flying())
	}
	w.Deliver(0)
	if s, e := w.Status(0, 0); s.State != api.Unbound || s.Seq != 1 || len(s.Result) != 0 || e != api.OK {
		t.Errorf("P14: Status = %+v, %d", s, e)
	}
	for want := 1; want <= 2; want++ {
		if uid, kind, e := w.Import(0, "sum"); uid != want || kind != api.Counter || e != api.OK {
			t.Errorf("P10: Import = %d, %d, %d, want %d", uid, kind, e, want)
		}
		w.Export("sum", api.Counter)
	}
}

// TestCrashRefusesOtherHosts: whatever was done before, and nothing is changed.
func TestCrashRefusesOtherHosts(t *testing.T) {
	for clients := 1; clients <= 3; clients++ {
		for _, lives := range []int{1, 2, 255} {
			b := newAll(t, api.Config{Clients: clients, Lines: 1, Retry: 3, Tries: 2, Table: 1})
			for range lives - 1 {
				b.crash(0)
			}
			b.bind(0, "wall")
			b.call(0, 0, 2, 0, items("hello"))
			b.deliver(0)
			for host := -300; host <= 300; host++ {
				if host >= -1 && host < clients {
					continue
				}
				if e := b.world.Crash(host); e != api.ErrClient {
					t.Errorf("P19: Crash(%d) of %d clients = %d", host, clients, e)
				}
			}
			for _, host := range []int{math.MinInt, math.MinInt + 1, math.MaxInt, 1 << 32, 1<<32 - 1, -1 << 32, 1<<16 - 1, 1<<63 - 1} {
				if e := b.world.Crash(host); e != api.ErrClient {
					t.Errorf("P19: Crash(%d) of %d clients = %d", host, clients, e)
				}
			}
			b.look("Crashes that were refused")
			b.deliverAll()
			b.serve()
			b.deliverAll()
			b.testStatus(0, 0, api.Done, 1, items(1)...)
		}
	}
}

// TestTheLastLife: calls are made in it as in all others, and it goes on when it can't end by a crash.
func TestTheLastLife(t *testing.T) {
	b := newAll(t, configW)
	for life := 2; life <= 255; life++ {
		if e := b.world.Crash(1); e != api.OK {
			t.Fatalf("P19: Crash(1) in life %d = %d", life-1, e)
		}
		b.words.crash(1)
		if life%50 == 0 || life > 252 {
			b.bind(1, "sum")
			b.done(1, 0, 1, 1, items(0), items(0))
			if x, e := b.world.Entry(1, b.log("a call", 1)-1); x.Life != life || x.Seq != 1 || x.Client != 1 || e != api.OK {
				t.Errorf("P18: the last entry in life %d is %+v, %d", life, x, e)
			}
		}
	}
	b.bind(1, "wall")
	b.call(1, 0, 2, 0, items("hello"))
	b.call(1, 1, 1, 0, items(5))
	b.deliver(1)
	for range 3 {
		if e := b.world.Crash(1); e != api.ErrSpent {
			t.Errorf("P19: Crash(1) in life 255 = %d", e)
		}
		b.look("a Crash that was refused")
	}
	b.testStatus(1, 0, api.Waiting, 2)
	b.testStatus(1, 1, api.Waiting, 1)
	b.deliverAll()
	b.serve()
	b.serve()
	b.deliverAll()
	b.testStatus(1, 0, api.Done, 2, items(1)...)
	b.testStatus(1, 1, api.Done, 1, items(5)...)
	// It is still bound to what it was bound to.
	b.done(1, 1, 1, 0, items(6), items(11))
	// The lives of the others, and the server's crashes, are counted apart.
	for range 300 {
		if e := b.crash(api.Server); e != api.OK {
			t.Fatalf("P19: Crash(Server) = %d", e)
		}
	}
	for life := 1; life < 255; life++ {
		if e := b.crash(0); e != api.OK {
			t.Fatalf("P19: Crash(0) in life %d = %d", life, e)
		}
	}
	if e := b.crash(0); e != api.ErrSpent {
		t.Errorf("P19: Crash(0) in life 255 = %d", e)
	}
	b.look("all lives")
}

// TestAClientsCrash: it is bound to nothing, whatever else is wrong with a Call; its lines are Idle, and count from 1.
func TestAClientsCrash(t *testing.T) {
	b := newAll(t, configCrash)
	b.done(0, 0, 1, 0, items(5), items(5))
	b.done(0, 0, 1, 0, items(5), items(10))
	b.call(0, 0, 2, 0, items("hello"))
	b.done(0, 1, 1, 0, items(5), items(15))
	if e := b.crash(0); e != api.OK {
		t.Fatalf("P19: Crash(0) = %d", e)
	}
	b.look("Crash")
	for line := range 2 {
		b.testStatus(0, line, api.Idle, 0)
	}
	for _, uid := range []int{1, 2, 3} {
		for _, proc := range []int{0, 1, 2} {
			for _, arg := range [][]api.Item{items(1), items("a"), nil} {
				if seq, e := b.world.Call(0, 0, uid, proc, arg); seq != 0 || e != api.ErrBound {
					t.Errorf("P19: Call(0, 0, %d, %d, %v) behind a crash = %d, %d", uid, proc, arg, seq, e)
				}
			}
		}
	}
	if _, e := b.world.Call(0, 2, 1, 0, items(5)); e != api.ErrLine {
		t.Errorf("P11: Call on line 2 behind a crash = %d", e)
	}
	b.look("Calls that were refused")
	b.bind(0, "sum")
	if _, e := b.world.Call(0, 0, 2, 0, items("hello")); e != api.ErrBound {
		t.Errorf("P19: Call of a service to which it was bound in an earlier life = %d", e)
	}
	for line := range 2 {
		b.call(0, line, 1, 0, items(100))
		b.testStatus(0, line, api.Waiting, 1)
		_, s, _ := b.world.Show(b.world.Flying() - 1)
		if p := packetByWords(s); p.Life != 2 || p.Seq != 1 || p.Line != line || p.Uid != 1 || p.Kind != api.Call || p.Please {
			t.Errorf("P19: the first packet of the next life is %s", told(p))
		}
	}
	b.deliverAll()
	b.serve()
	b.serve()
	b.deliverAll()
	b.testStatus(0, 0, api.Done, 1, items(115)...)
	b.testStatus(0, 1, api.Done, 1, items(215)...)
}

// TestACrashEndsAllWaits: a call that is gone sends nothing more, and the next one on its line waits from the beginning.
func TestACrashEndsAllWaits(t *testing.T) {
	b := newAll(t, configW)
	b.call(0, 0, 1, 0, items(5))
	b.call(1, 0, 1, 0, items(5))
	b.tick()
	b.tick()
	b.crash(0)
	b.tick()
	b.look("Tick")
	if kinds := b.kindsFlying(); len(kinds) != 3 {
		t.Errorf("P19: behind the third Tick there fly %v", kinds)
	}
	b.bind(0, "sum")
	b.call(0, 0, 1, 0, items(5))
	for range 9 {
		b.tick()
		b.look("Tick")
	}
	b.testStatus(0, 0, api.Timeout, 1)
}

// TestSpentSeqsComeBack: in the next life, on each line.
func TestSpentSeqsComeBack(t *testing.T) {
	b := newAll(t, api.Config{Clients: 1, Lines: 2, Retry: 1, Tries: 1, Table: 1})
	for seq := 1; seq <= 999; seq++ {
		b.call(0, 1, 1, 0, items(seq))
		b.endCalls()
	}
	if e := b.call(0, 1, 1, 0, items(5)); e != api.ErrSpent {
		t.Fatalf("P11: Call behind 999 = %d", e)
	}
	b.crash(api.Server)
	if e := b.call(0, 1, 1, 0, items(5)); e != api.ErrSpent {
		t.Errorf("P11: Call behind 999 and a crash of the server = %d", e)
	}
	b.crash(0)
	if e := b.call(0, 1, 1, 0, items(5)); e != api.ErrBound {
		t.Errorf("P11: Call behind a crash = %d", e)
	}
	b.bind(0, "sum")
	b.call(0, 1, 1, 0, items(5))
	b.testStatus(0, 1, api.Waiting, 1)
	b.look("all")
}

// TestAServersCrash: clients know nothing of it, until they ask.
func TestAServersCrash(t *testing.T) {
	b := newAll(t, api.Config{Clients: 2, Lines: 3, Retry: 3, Tries: 2, Table: 6})
	b.done(0, 0, 1, 0, items(5), items(5))
	b.call(0, 1, 1, 0, items(6))
	b.deliver(0)
	b.call(0, 2, 2, 0, items("hello"))
	b.deliver(0)
	b.call(1, 0, 3, 0, items(0, 0))
	if e := b.crash(api.Server); e != api.OK {
		t.Fatalf("P19: Crash(Server) = %d", e)
	}
	b.look("Crash")
	b.testStatus(0, 0, api.Done, 1, items(5)...)
	b.testStatus(0, 1, api.Waiting, 1)
	b.testStatus(0, 2, api.Waiting, 1)
	b.testStatus(1, 0, api.Waiting, 1)
	if e := b.serve(); e != api.ErrIdle {
		t.Errorf("P19: Serve() behind a crash = %d", e)
	}
	// The Ack comes still, and lets the second piece go.
	b.deliverAll()
	b.testStatus(0, 2, api.Unbound, 1)
	b.testStatus(1, 0, api.Unbound, 1)
	b.testStatus(0, 1, api.Waiting, 1)
	b.ticks(3)
	b.deliverAll()
	b.testStatus(0, 1, api.Unbound, 1)
	// It is bound as it was; a call of what is dead is made, and is refused.
	b.call(0, 0, 1, 0, items(5))
	b.deliverAll()
	b.testStatus(0, 0, api.Unbound, 2)
	if n := b.log("all", 1); n != 1 {
		t.Errorf("P20: the service has done %d calls", n)
	}
}

// TestNamesOutliveACrash: with what they stand for, though that is dead.
func TestNamesOutliveACrash(t *testing.T) {
	b := newBoth(t, configW)
	for i, name := range sixNames() {
		b.export(name, i%3)
	}
	b.crash(api.Server)
	b.crash(0)
	for i, name := range sixNames() {
		if uid, kind, e := b.world.Import(0, name); uid != i+1 || kind != i%3 || e != api.OK {
			t.Errorf("P19: Import(0, %q) behind a crash = %d, %d, %d", name, uid, kind, e)
		}
		b.words.bind(0, name)
	}
	if uid, e := b.world.Export("seventh", api.Counter); uid != 0 || e != api.ErrFull {
		t.Errorf("P19: Export of a seventh name behind a crash = %d, %d", uid, e)
	}
	if e := b.world.Withdraw("seventh"); e != api.ErrName {
		t.Errorf("P19: Withdraw of a name that is not there = %d", e)
	}
	// A name may come to stand for another service, or for none.
	if uid, e := b.world.Export("wall", api.Counter); uid != 7 || e != api.OK {
		t.Errorf("P19: Export behind a crash = %d, %d", uid, e)
	}
	b.words.export("wall", api.Counter)
	if e := b.world.Withdraw("desk"); e != api.OK {
		t.Errorf("P19: Withdraw behind a crash = %d", e)
	}
	b.words.withdraw("desk")
	if e := b.world.Withdraw("desk"); e != api.ErrName {
		t.Errorf("P19: a second Withdraw behind a crash = %d", e)
	}
	if uid, e := b.world.Export("seventh", api.Board); uid != 8 || e != api.OK {
		t.Errorf("P19: Export of a new name behind a Withdraw = %d, %d", uid, e)
	}
	b.words.export("seventh", api.Board)
	b.look("names")
	// To the services of before it was bound behind the crash: they stay dead.
	for uid := 1; uid <= 6; uid++ {
		kind := (uid - 1) % 3
		b.call(0, 0, uid, 0, [][]api.Item{items(5), items("text"), items(0, 0)}[kind])
		b.deliverAll()
		b.testStatus(0, 0, api.Unbound, uid)
	}
	b.bind(0, "wall")
	b.bind(0, "seventh")
	b.done(0, 0, 7, 0, items(5), items(5))
	b.done(0, 1, 8, 0, items("text"), items(1))
	b.lookAtLogs("all")
}

// TestUidsOutliveACrash: they count on, until they are spent.
func TestUidsOutliveACrash(t *testing.T) {
	b := newBoth(t, configW)
	for want := 1; want <= 255; want++ {
		if uid := b.export("sum", api.Counter); uid != want {
			t.Fatalf("P19: Export = %d, want %d", uid, want)
		}
		if want%2 == 0 {
			b.crash(api.Server)
		}
	}
	b.bind(0, "sum")
	b.done(0, 0, 255, 0, items(5), items(5))
	for _, name := range []string{"sum", "other"} {
		if uid, e := b.world.Export(name, api.Counter); uid != 0 || e != api.ErrSpent {
			t.Errorf("P10: Export = %d, %d", uid, e)
		}
	}
	// The Exports that were refused have ended nothing; a crash does.
	b.done(0, 0, 255, 0, items(5), items(10))
	b.crash(api.Server)
	b.call(0, 0, 255, 0, items(5))
	b.deliverAll()
	b.testStatus(0, 0, api.Unbound, 3)
	b.lookAtLogs("all")
}

// TestLogsOutliveCrashes: those of all services, with all that they tell.
func TestLogsOutliveCrashes(t *testing.T) {
	b := newAll(t, configW)
	b.done(0, 1, 1, 0, items(5), items(5))
	b.done(1, 0, 2, 0, items("text"), items(1))
	b.done(0, 1, 3, 0, items(2, 1, -5), items(0, 0))
	for _, host := range []int{0, api.Server, 1, api.Server} {
		b.crash(host)
		for _, c := range []struct {
			uid  int
			want api.Entry
		}{
			{1, api.Entry{Client: 0, Life: 1, Line: 1, Seq: 1, Proc: 0, Arg: items(5), Result: items(5)}},
			{2, api.Entry{Client: 1, Life: 1, Line: 0, Seq: 1, Proc: 0, Arg: items("text"), Result: items(1)}},
			{3, api.Entry{Client: 0, Life: 1, Line: 1, Seq: 2, Proc: 0, Arg: items(2, 1, -5), Result: items(0, 0)}},
		} {
			if n, e := b.world.Log(c.uid); n != 1 || e != api.OK {
				t.Errorf("P18: Log(%d) behind Crash(%d) = %d, %d", c.uid, host, n, e)
			}
			if x, e := b.world.Entry(c.uid, 0); !sameEntry(x, c.want) || e != api.OK {
				t.Errorf("P18: Entry(%d, 0) behind Crash(%d) = %+v, %d, want %+v", c.uid, host, x, e, c.want)
			}
		}
		b.lookAtLogs("Crash")
	}
}

// TestServicesBeginAnewBehindACrash: nothing of the state of an earlier one is left.
func TestServicesBeginAnewBehindACrash(t *testing.T) {
	b := newAll(t, configW)
	for range 2 {
		uids := []int{b.bind(0, "sum"), b.bind(0, "wall"), b.bind(0, "desk")}
		b.done(0, 0, uids[0], 0, items(5), items(5))
		b.done(0, 0, uids[1], 0, items("text"), items(1))
		b.done(0, 0, uids[2], 0, items(0, 1, 5), items(0, 0))
		b.crash(api.Server)
		b.export("sum", api.Counter)
		b.export("wall", api.Board)
		b.export("desk", api.Desk)
	}
}

// callOnAll makes a call of the Counter on as many lines as the table has room for, and delivers all.
func (b bothWorlds) callOnAll() {
	b.t.Helper()
	for n := range b.words.config.Table {
		uid := b.bind(n/3, "sum")
		if e := b.call(n/3, n%3, uid, 0, items(1)); e != api.OK {
			b.t.Fatalf("P11: Call = %d", e)
		}
	}
	b.deliverAll()
}

// TestJobsAreForgotten: those of a full queue, of which one was done or none.
func TestJobsAreForgotten(t *testing.T) {
	for table := 1; table <= 9; table++ {
		for _, done := range []int{0, 1} {
			b := newAll(t, api.Config{Clients: 3, Lines: 3, Retry: 8, Tries: 6, Table: table})
			b.callOnAll()
			for range done {
				b.serve()
			}
			b.crash(api.Server)
			if e := b.serve(); e != api.ErrIdle {
				t.Errorf("P19: Table %d: Serve() behind a crash = %d", table, e)
			}
			b.export("sum", api.Counter)
			if e := b.serve(); e != api.ErrIdle {
				t.Errorf("P19: Table %d: Serve() behind Export = %d", table, e)
			}
			if n := b.log("all", 1); n != done {
				t.Errorf("P20: Table %d: the service has done %d calls", table, n)
			}
		}
	}
}

// TestTheQueueHasItsRoomAgain behind a crash, though no Serve has passed any job over; and no more room than before.
func TestTheQueueHasItsRoomAgain(t *testing.T) {
	for table := 1; table <= 9; table++ {
		b := newAll(t, api.Config{Clients: 3, Lines: 3, Retry: 8, Tries: 6, Table: table})
		b.callOnAll()
		b.crash(api.Server)
		b.export("sum", api.Counter)
		b.endCalls()
		b.callOnAll()
		if count := b.serveAll(); count != table {
			t.Errorf("P19: Table %d: %d calls were done", table, count)
		}
		b.deliverAll()
		for n := range table {
			b.testStatus(n/3, n%3, api.Done, 2, items(n+1)...)
		}
		// The second of these calls comes to a line whose first one has a job in the queue: for another one there is no room.
		b.callOnAll()
		b.endCalls()
		b.callOnAll()
		if count := b.serveAll(); count != 0 {
			t.Errorf("P17: Table %d: %d calls were done", table, count)
		}
	}
}

// TestTheTableHasItsRoomAgain behind a crash: for lines of a client of which nothing was known, and for no more than before.
func TestTheTableHasItsRoomAgain(t *testing.T) {
	for table := 1; table <= 3; table++ {
		b := newAll(t, api.Config{Clients: 2, Lines: 3, Retry: 3, Tries: 2, Table: table})
		for line := range table {
			b.done(0, line, 1, 0, items(1), items(1+line))
		}
		b.crash(api.Server)
		uid := b.export("sum", api.Counter)
		b.bind(0, "sum")
		b.bind(1, "sum")
		for line := range table {
			b.done(1, line, uid, 0, items(1), items(1+line))
		}
		b.call(0, 0, uid, 0, items(1))
		b.deliverAll()
		b.testStatus(0, 0, api.Refused, 2)
	}
}

// TestResultsAreNotSentAgainBehindACrash: the server knows of no line that waits for a Got.
func TestResultsAreNotSentAgainBehindACrash(t *testing.T) {
	for _, host := range []int{api.Server, 0} {
		b := newSending(t, api.Result)
		b.crash(host)
		b.drop(0)
		sent := 0
		for range 9 {
			b.tick()
			b.look("Tick")
			for i, kind := range b.kindsFlying() {
				if kind == api.Result {
					sent++
					b.drop(i)
				}
			}
		}
		// The crash of the client is nothing to the server, until it hears of it.
		want := map[int]int{api.Server: 0, 0: 2}[host]
		if sent != want {
			t.Errorf("P19: behind Crash(%d) a piece of the result was sent %d times, want %d", host, sent, want)
		}
	}
}

// newJobs is a world in which two jobs of client 0 and one of client 1 are in the queue, ahead of a crash of client 0.
func newJobs(t *testing.T, table int) bothWorlds {
	t.Helper()
	b := newAll(t, api.Config{Clients: 2, Lines: 2, Retry: 3, Tries: 2, Table: table})
	b.call(0, 0, 1, 0, items(5))
	b.call(0, 1, 1, 0, items(6))
	b.call(1, 0, 1, 0, items(7))
	b.deliverAll()
	b.crash(0)
	return b
}

func (b bothWorlds) serveAll() int {
	b.t.Helper()
	count := 0
	for b.serve() == api.OK {
		count++
	}
	return count
}

// TestAClientsJobs: they are done though it has crashed, as long as no packet of its next life comes.
func TestAClientsJobs(t *testing.T) {
	b := newJobs(t, 3)
	if count, n := b.serveAll(), b.log("all", 1); count != 3 || n != 3 {
		t.Errorf("P17: %d calls were done, by %d Serves", n, count)
	}
	b.deliverAll()
	b.testStatus(0, 0, api.Idle, 0)
	b.testStatus(0, 1, api.Idle, 0)
	b.testStatus(1, 0, api.Done, 1, items(18)...)
}

// TestAClientsJobsArePassedOver when such a packet has come; until then they take room in the queue.
func TestAClientsJobsArePassedOver(t *testing.T) {
	for table := 3; table <= 4; table++ {
		b := newJobs(t, table)
		b.bind(0, "sum")
		b.call(0, 1, 1, 1, items(0))
		b.deliverAll()
		if count := b.serveAll(); count != table-2 {
			t.Errorf("P17: Table %d: %d calls were done", table, count)
		}
		b.deliverAll()
		b.testStatus(1, 0, api.Done, 1, items(7)...)
		b.ticks(3)
		b.deliverAll()
		b.serveAll()
		b.deliverAll()
		b.testStatus(0, 0, api.Idle, 0)
		b.testStatus(0, 1, api.Done, 1, items(7)...)
		if n := b.log("all", 1); n != 2 {
			t.Errorf("P20: Table %d: %d calls were done", table, n)
		}
	}
}

// TestWhatFliesGoesOnFlying: to its host, whole or bent, up to the last one that has room.
func TestWhatFliesGoesOnFlying(t *testing.T) {
	for _, host := range []int{api.Server, 0, 1} {
		b := newAll(t, configW)
		b.call(0, 0, 2, 0, items("hello"))
		b.copy(0)
		b.deliver(0)
		b.copy(1)
		b.bend(2, 3, 7)
		b.call(1, 1, 1, 0, items(5))
		for len(b.words.flying) < 40 {
			b.copy(len(b.words.flying) % 4)
		}
		b.look("40 packets")
		b.crash(host)
		b.look("Crash")
		if e := b.world.Bend(2, 3, 7); e != api.ErrBent {
			t.Errorf("P19: Bend behind a crash = %d", e)
		}
		if e := b.world.Copy(0); e != api.ErrFull {
			t.Errorf("P19: Copy behind a crash = %d", e)
		}
		for range 200 {
			if len(b.words.flying) == 0 {
				break
			}
			b.deliver(0)
			b.look("Deliver")
		}
	}
}

// TestACrashIsNothingToOthers: neither to the other client, nor to another world.
func TestACrashIsNothingToOthers(t *testing.T) {
	one, two := newAll(t, configCrash), newAll(t, configCrash)
	for _, b := range []bothWorlds{one, two} {
		b.done(1, 0, 2, 0, items(fourteen), items(1))
		b.call(1, 0, 2, 1, items(4))
		b.deliver(0)
		b.serve()
		b.deliver(0)
		b.call(0, 1, 1, 0, items(5))
	}
	one.crash(api.Server)
	one.crash(0)
	two.look("crashes in another world")
	two.crash(0)
	two.look("Crash(0)")
	two.deliverAll()
	two.testStatus(1, 0, api.Done, 2, items(1, fourteen)...)
	if e := two.serve(); e != api.OK {
		t.Errorf("P19: Serve() of the call of a client that crashed = %d", e)
	}
	two.deliverAll()
	two.done(1, 1, 1, 0, items(5), items(10))
	one.deliverAll()
	one.testStatus(1, 0, api.Waiting, 2)
	one.testStatus(0, 1, api.Idle, 0)
	one.ticks(3)
	one.deliverAll()
	one.testStatus(1, 0, api.Unbound, 2)
}

// newLater is a world in which a packet of that kind flies, of the third call of client 0 on line 0; behind it the hosts crash, and the third call on that line in the life that the client has then is under way, of a service that is alive.
func newLater(t *testing.T, kind int, hosts ...int) bothWorlds {
	t.Helper()
	b := newSending(t, kind)
	for _, host := range hosts {
		b.crash(host)
	}
	uid := b.export("wall", api.Board)
	b.bind(0, "wall")
	for i := range 2 {
		b.call(0, 0, uid, 0, items(fourteen))
		for len(b.words.flying) > 1 {
			b.deliver(1)
		}
		b.serve()
		for len(b.words.flying) > 1 {
			b.deliver(1)
		}
		b.testStatus(0, 0, api.Done, i+1, items(i+1)...)
	}
	b.call(0, 0, uid, 1, items(4))
	return b
}

// TestEarlierLivesAtTheNextCall: a packet of an earlier life does nothing to a call with its line and its seq.
func TestEarlierLivesAtTheNextCall(t *testing.T) {
	for kind := api.Call; kind <= api.Reject; kind++ {
		for _, hosts := range [][]int{{0}, {api.Server, 0}, {0, api.Server}, {0, 0}} {
			for _, behind := range []int{0, 1, 2, 3, 4, 5, 6} {
				b := newLater(t, kind, hosts...)
				for i := range behind {
					if i == 1 {
						b.serve()
					}
					if len(b.words.flying) > 1 {
						b.deliver(1)
					}
				}
				b.look("the next life's call")
				before, count := b.words.lines[0][0], b.world.Flying()
				b.deliver(0)
				b.look("a packet of an earlier life")
				if after := b.words.lines[0][0]; after.state != before.state || after.acked != before.acked || after.has != before.has || after.wait != before.wait || b.world.Flying() != count-1 {
					t.Errorf("P20: behind a packet of kind %d of an earlier life the call is %+v, it was %+v; %d packets fly", kind, after, before, b.world.Flying())
				}
				b.deliverAll()
				b.serve()
				b.deliverAll()
				b.testStatus(0, 0, api.Done, 3, items(2, fourteen, fourteen)...)
			}
		}
	}
}

// TestEarlierCallsBehindAServersCrash: whoever asks is told that the service is dead, even one of an earlier life; a Got is nothing to the server.
func TestEarlierCallsBehindAServersCrash(t *testing.T) {
	for _, kind := range []int{api.Call, api.Probe, api.Got} {
		for _, lives := range []int{1, 2} {
			b := newSending(t, kind)
			if lives == 2 {
				b.crash(0)
			}
			// The server knows the greater life ahead of the crash.
			b.bind(0, "sum")
			b.call(0, 1, 1, 0, items(5))
			b.deliver(1)
			b.crash(api.Server)
			b.deliver(0)
			b.look("an earlier packet behind a crash of the server")
			want := 1
			if kind == api.Got {
				want = 0
			}
			if n := b.world.Flying(); n != want {
				t.Fatalf("P19: a packet of kind %d behind a crash of the server: %d packets fly", kind, n)
			}
			if want == 1 {
				reject := packetBytes(api.Packet{Kind: api.Reject, Life: 1, Seq: 3, Uid: 2, Part: 0, Of: 2})
				if host, s, _ := b.world.Show(0); host != 0 || s != reject {
					t.Errorf("P16: Show(0) = %d, %v, want %v", host, []byte(s), []byte(reject))
				}
			}
			b.deliverAll()
			switch {
			case lives == 2:
				b.testStatus(0, 0, api.Idle, 0)
			case kind == api.Got:
				b.testStatus(0, 0, api.Waiting, 3)
			default:
				b.testStatus(0, 0, api.Unbound, 3)
			}
			b.testStatus(0, 1, api.Waiting, 1)
		}
	}
}

// TestAnswersBehindAServersCrash: what the server sent comes still, and is what it was.
func TestAnswersBehindAServersCrash(t *testing.T) {
	for kind, want := range map[int]int{api.Ack: api.Unbound, api.Alive: api.Waiting, api.Result: api.Waiting, api.Reject: api.Unbound} {
		b := newSending(t, kind)
		b.crash(api.Server)
		b.look("Crash")
		b.deliverAll()
		b.testStatus(0, 0, want, 3)
		b.ticks(3)
		b.deliverAll()
		b.testStatus(0, 0, api.Unbound, 3)
	}
}
