package errand_test

import (
	"math"
	"testing"

	"errand/api"
)

func TestCountersCount(t *testing.T) {
	b := newAll(t, configW)
	for _, c := range []struct{ proc, arg, result int }{
		{1, 0, 0}, {1, 1, 0}, {0, 0, 0}, {0, 5, 5}, {0, -6, 65535}, {1, 0, 65535}, {0, 1, 0}, {0, -1, 65535}, {0, 2, 1},
		{0, 32767, 32768}, {0, 32767, 65535}, {0, -32768, 32767}, {0, -32768, 65535}, {1, 0, 65535}, {1, 1, 65535}, {1, 0, 0}, {0, -32768, 32768}, {0, -32768, 0}, {0, 7, 7}, {1, 1, 7}, {1, 1, 0},
	} {
		b.done(0, 0, 1, c.proc, items(c.arg), items(c.result))
	}
}

func TestBoardsShowTheirPosts(t *testing.T) {
	b := newAll(t, configW)
	texts := []string{"", "a", fourteen, "thirteen byte", "\x00\xff", "five", "six"}
	for i := range texts {
		b.done(1, 0, 2, 0, items(texts[i]), items(min(4, i+1)))
		there := texts[max(0, i-3) : i+1]
		for _, most := range []int{0, 1, 2, 3, 4, 5, 255, 256, 65535} {
			want := items(min(most, len(there)))
			for _, s := range there[:min(most, len(there))] {
				want = append(want, api.Item{S: s})
			}
			b.done(1, 0, 2, 1, items(most), want)
		}
	}
}

// TestABoardOfTheGreatestResult: four strings of fourteen bytes are 66 bytes, nine pieces.
func TestABoardOfTheGreatestResult(t *testing.T) {
	b := newAll(t, configW)
	b.done(0, 0, 2, 1, items(4), items(0))
	for i := range 4 {
		b.done(0, 0, 2, 0, items(fourteen), items(i+1))
	}
	b.done(0, 0, 2, 1, items(65535), items(4, fourteen, fourteen, fourteen, fourteen))
	b.done(0, 1, 2, 1, items(3), items(3, fourteen, fourteen, fourteen))
}

func TestDesksGiveWhatLayThere(t *testing.T) {
	b := newAll(t, configW)
	for _, c := range []struct{ arg, result []api.Item }{
		{items(0, 0), items(0, 0)},
		{items(0, 1, 0), items(0, 0)},
		{items(0, 2, -1, 32767), items(1, 1, 0)},
		{items(2, 3, 1, 2, 3), items(0, 0)},
		{items(0, 3, -32768, 0, 5), items(1, 2, -1, 32767)},
		{items(1, 0), items(0, 0)},
		{items(0, 0), items(1, 3, -32768, 0, 5)},
		{items(0, 0), items(0, 0)},
		{items(0, 1, 9), items(0, 0)},
		{items(2, 0), items(1, 3, 1, 2, 3)},
		{items(1, 2, 7, 8), items(0, 0)},
		{items(1, 2, 7, 8), items(1, 2, 7, 8)},
	} {
		b.done(1, 1, 3, 0, c.arg, c.result)
	}
}

// TestServicesHaveTheirOwnState: those of one kind, too.
func TestServicesHaveTheirOwnState(t *testing.T) {
	b := newAll(t, configW)
	b.export("more", api.Counter)
	b.export("board", api.Board)
	b.export("table", api.Desk)
	for _, name := range []string{"more", "board", "table"} {
		b.bind(0, name)
	}
	b.done(0, 0, 1, 0, items(5), items(5))
	b.done(0, 0, 4, 0, items(7), items(7))
	b.done(0, 0, 1, 1, items(1), items(5))
	b.done(0, 0, 4, 1, items(0), items(7))
	b.done(0, 0, 2, 0, items("a"), items(1))
	b.done(0, 0, 5, 1, items(9), items(0))
	b.done(0, 0, 3, 0, items(0, 1, 5), items(0, 0))
	b.done(0, 0, 6, 0, items(0, 1, 6), items(0, 0))
	b.done(0, 0, 3, 0, items(0, 0), items(1, 1, 5))
	// A new service under the name begins with nothing.
	b.export("more", api.Counter)
	b.bind(0, "more")
	b.done(0, 0, 7, 1, items(0), items(0))
}

func TestServeOfNothing(t *testing.T) {
	b := newAll(t, configW)
	for range 3 {
		if e := b.serve(); e != api.ErrIdle {
			t.Errorf("P17: Serve() = %d", e)
		}
	}
	b.call(0, 0, 2, 0, items("hello"))
	b.serve()
	b.deliver(0)
	b.look("the first of two pieces")
	if e := b.serve(); e != api.ErrIdle {
		t.Errorf("P17: Serve() of a call that gathers = %d", e)
	}
	b.look("Serve of a call that gathers")
	b.deliverAll()
	if e := b.serve(); e != api.OK {
		t.Errorf("P17: Serve() = %d", e)
	}
	if e := b.serve(); e != api.ErrIdle {
		t.Errorf("P17: Serve() of a call that is answered = %d", e)
	}
	b.deliverAll()
}

// TestFirstInFirstOut: calls are done in the order in which their last pieces came.
func TestFirstInFirstOut(t *testing.T) {
	b := newAll(t, api.Config{Clients: 3, Lines: 3, Retry: 8, Tries: 1, Table: 9})
	for n := range 9 {
		b.call(n/3, n%3, 1, 0, items(1+n))
	}
	order := []int{4, 0, 8, 2, 6, 1, 7, 5, 3}
	left := []int{0, 1, 2, 3, 4, 5, 6, 7, 8}
	for _, n := range order {
		for i, m := range left {
			if m == n {
				b.deliver(i)
				left = append(left[:i:i], left[i+1:]...)
				break
			}
		}
	}
	for k, n := range order {
		if e := b.serve(); e != api.OK {
			t.Fatalf("P17: Serve() = %d", e)
		}
		if x, e := b.world.Entry(1, k); x.Client != n/3 || x.Line != n%3 || e != api.OK {
			t.Errorf("P17: the call number %d is of client %d, line %d, want %d, %d", k, x.Client, x.Line, n/3, n%3)
		}
		b.look("Serve")
	}
	b.deliverAll()
}

// TestAFullQueue: of jobs that are passed over. Its room is that of Table jobs; a last piece that finds none has not come.
func TestAFullQueue(t *testing.T) {
	for table := 1; table <= 9; table++ {
		b := newAll(t, api.Config{Clients: 3, Lines: 3, Retry: 1, Tries: 1, Table: table})
		// The client gives its call up again and again: the line stays one, its jobs become more.
		for seq := 1; seq <= table; seq++ {
			b.call(0, 0, 1, 0, items(seq))
			b.deliver(0)
			b.endCalls()
		}
		b.call(0, 0, 1, 0, items(100))
		b.deliver(0)
		b.look("a call for whose job there is no room")
		b.tick()
		b.deliver(0)
		b.look("the same, with Please")
		if n := b.world.Flying(); n != 0 {
			t.Errorf("P16: Table %d: the queue is full, and %d packets fly", table, n)
		}
		if e := b.serve(); e != api.ErrIdle {
			t.Errorf("P17: Table %d: Serve() = %d", table, e)
		}
		b.endCalls()
		// All that were passed over are gone.
		b.done(0, 0, 1, 0, items(7), items(7))
		if n := b.log("all", 1); n != 1 {
			t.Errorf("P17: Table %d: %d calls were done", table, n)
		}
	}
}

// TestAFullQueueTakesOtherPieces: the pieces ahead of the last one need no room in the queue.
func TestAFullQueueTakesOtherPieces(t *testing.T) {
	b := newAll(t, api.Config{Clients: 2, Lines: 1, Retry: 4, Tries: 3, Table: 2})
	for seq := 1; seq <= 2; seq++ {
		b.call(0, 0, 1, 0, items(seq))
		b.deliver(0)
		b.endCalls()
	}
	b.call(1, 0, 2, 0, items(fourteen))
	for range 4 {
		b.deliver(0)
		b.look("Deliver")
	}
	if kinds := b.kindsFlying(); len(kinds) != 1 || kinds[0] != api.Call {
		t.Fatalf("P16: behind two pieces there fly %v", kinds)
	}
	b.deliver(0)
	b.look("the last piece, without room")
	// The first job is passed over, the second one done: nobody waits for its result.
	b.serve()
	b.deliver(0)
	for range 4 {
		b.tick()
	}
	b.deliver(0)
	b.look("the last piece once more")
	if kinds := b.kindsFlying(); len(kinds) != 1 || kinds[0] != api.Ack {
		t.Errorf("P16: behind the last piece there fly %v", kinds)
	}
	b.deliverAll()
	b.serve()
	b.deliverAll()
	if s, _ := b.world.Status(1, 0); s.State != api.Done || !same(s.Result, items(1)) {
		t.Errorf("P16: Status = %+v", s)
	}
}

// TestJobsThatArePassedOver: of lines that are void, and of those that were asked for another call since; behind them one that waits, or none.
func TestJobsThatArePassedOver(t *testing.T) {
	for _, isBehind := range []bool{true, false} {
		b := newAll(t, api.Config{Clients: 3, Lines: 2, Retry: 1, Tries: 1, Table: 6})
		b.call(0, 0, 1, 0, items(1))
		b.call(0, 1, 1, 0, items(2))
		b.call(1, 0, 2, 0, items("hi"))
		b.deliver(0)
		b.deliver(0)
		b.deliver(0)
		b.withdraw("sum")
		b.endCalls()
		b.call(1, 0, 2, 0, items("hello"))
		b.deliver(0)
		b.look("the first piece of another call")
		if isBehind {
			b.call(2, 1, 3, 0, items(1, 1, 5))
			b.deliver(1)
		}
		want := api.ErrIdle
		if isBehind {
			want = api.OK
		}
		if e := b.serve(); e != want {
			t.Errorf("P17: Serve() = %d, want %d", e, want)
		}
		b.look("Serve")
		if e := b.serve(); e != api.ErrIdle {
			t.Errorf("P17: Serve() behind it = %d", e)
		}
		b.deliverAll()
		b.serve()
		b.deliverAll()
		if x, e := b.world.Entry(2, 0); x.Seq != 2 || !same(x.Arg, items("hello")) || e != api.OK {
			t.Errorf("P17: Entry(2, 0) = %+v, %d", x, e)
		}
		if n := b.log("all", 1); n != 0 {
			t.Errorf("P10: %d void calls were done", n)
		}
	}
}

// TestAServiceEnds while a line gathers, waits, or is answered; by Withdraw, and by Export.
func TestAServiceEnds(t *testing.T) {
	for _, isExport := range []bool{true, false} {
		for _, state := range []string{"gathers", "waits", "is answered"} {
			b := newAll(t, configW)
			b.done(1, 0, 2, 0, items(fourteen), items(1))
			b.call(0, 0, 2, 0, items("hello"))
			b.deliver(0)
			if state != "gathers" {
				b.deliver(0)
				b.deliver(0)
			}
			if state == "is answered" {
				b.serve()
				b.drop(0)
			}
			if isExport {
				b.export("wall", api.Board)
			} else {
				b.withdraw("wall")
			}
			b.look("the end of a service while a line " + state)
			if e := b.serve(); e != api.ErrIdle {
				t.Errorf("P10: a line %s when its service ends: Serve() = %d", state, e)
			}
			for len(b.words.flying) > 0 {
				b.drop(0)
			}
			for range 3 {
				b.tick()
			}
			b.deliver(0)
			b.look("a packet behind the end of a service")
			kind, end, done := api.Reject, api.Unbound, 1
			if state == "is answered" {
				kind, end, done = api.Result, api.Done, 2
			}
			if kinds := b.kindsFlying(); len(kinds) != 1 || kinds[0] != kind {
				t.Errorf("P10: a line %s when its service ends: there fly %v, want %d", state, kinds, kind)
			}
			b.deliver(0)
			if s, _ := b.world.Status(0, 0); s.State != end {
				t.Errorf("P14: a line %s when its service ends: Status = %+v", state, s)
			}
			if n := b.log("all", 2); n != done {
				t.Errorf("P18: a line %s when its service ends: %d calls were done, want %d", state, n, done)
			}
		}
	}
}

// TestAServicesEndIsNothingToOthers: the lines of other services go on.
func TestAServicesEndIsNothingToOthers(t *testing.T) {
	b := newAll(t, api.Config{Clients: 1, Lines: 3, Retry: 3, Tries: 2, Table: 3})
	b.call(0, 0, 1, 0, items(5))
	b.call(0, 1, 2, 0, items("hello"))
	b.call(0, 2, 3, 0, items(1, 1, 5))
	b.deliver(0)
	b.deliver(0)
	b.deliver(0)
	b.withdraw("desk")
	b.look("Withdraw")
	b.deliverAll()
	for range 2 {
		if e := b.serve(); e != api.OK {
			t.Errorf("P10: Serve() = %d", e)
		}
	}
	if e := b.serve(); e != api.ErrIdle {
		t.Errorf("P10: Serve() = %d", e)
	}
	b.deliverAll()
}

// TestTheTableIsFull: of lines in any state; a line that is there needs no more room.
func TestTheTableIsFull(t *testing.T) {
	for table := 1; table <= 8; table++ {
		b := newAll(t, api.Config{Clients: 3, Lines: 3, Retry: 8, Tries: 6, Table: table})
		for n := range 9 {
			b.call(n/3, n%3, 1+n%3, 0, [][]api.Item{items(n), items("hello"), items(n%3, 1, n)}[n%3])
		}
		for range 9 {
			b.deliver(0)
		}
		b.look("nine calls")
		b.withdraw("desk")
		b.deliverAll()
		for n := range 9 {
			s, _ := b.world.Status(n/3, n%3)
			if isRefused := n >= table; (s.State == api.Refused) != isRefused {
				t.Errorf("P16: Table %d: the call number %d is %+v", table, n, s)
			}
		}
		for b.serve() == api.OK {
			b.deliverAll()
		}
		// The first line is remembered, the last one is not.
		b.done(0, 0, 1, 0, items(5), items(b.words.server.services[0].number+5))
		b.call(2, 2, 1, 0, items(5))
		b.deliverAll()
		if s, _ := b.world.Status(2, 2); s.State != api.Refused {
			t.Errorf("P16: Table %d: a line behind a full table is %+v", table, s)
		}
		// That no service is alive is told ahead of that there is no room.
		b.withdraw("sum")
		b.call(2, 2, 1, 0, items(5))
		b.deliverAll()
		if s, _ := b.world.Status(2, 2); s.State != api.Unbound {
			t.Errorf("P16: Table %d: a line of no service is %+v", table, s)
		}
	}
}

// TestWaitsOfTheServer looks at a result of several pieces behind each Tick, until the server waits for nothing more, and beyond.
func TestWaitsOfTheServer(t *testing.T) {
	for retry := 1; retry <= 8; retry++ {
		for tries := 1; tries <= 6; tries++ {
			b := newAll(t, api.Config{Clients: 1, Lines: 1, Retry: retry, Tries: tries, Table: 1})
			b.done(0, 0, 2, 0, items(fourteen), items(1))
			b.call(0, 0, 2, 1, items(9))
			b.deliver(0)
			b.endCalls()
			b.serve()
			b.look("Serve")
			for ticks := 1; ticks <= retry*(tries+1)+10; ticks++ {
				b.tick()
				b.look("Tick")
				if want := 1 + min(ticks/retry, tries); b.world.Flying() != want {
					t.Fatalf("P17: Retry %d, Tries %d, behind %d ticks %d packets fly, want %d", retry, tries, ticks, b.world.Flying(), want)
				}
			}
		}
	}
}

// TestTheLastPieceIsNotSentAgain by itself: neither that of a result of one piece, nor of several.
func TestTheLastPieceIsNotSentAgain(t *testing.T) {
	for _, text := range []string{"", "abcd", "abcdef", fourteen} {
		b := newAll(t, api.Config{Clients: 1, Lines: 1, Retry: 2, Tries: 6, Table: 1})
		b.done(0, 0, 2, 0, items(text), items(1))
		b.call(0, 0, 2, 1, items(9))
		b.deliver(0)
		b.serve()
		for range 20 {
			if p := packetByWords(b.words.flying[0].bytes); p.Kind == api.Result && p.Part == p.Of-1 {
				break
			}
			b.deliver(0)
		}
		b.drop(0)
		b.look("the last piece, which is lost")
		for range 2 {
			b.tick()
			b.look("Tick")
		}
		if kinds := b.kindsFlying(); len(kinds) != 1 || kinds[0] == api.Result {
			t.Errorf("P17: of the result of %q there fly %v", text, kinds)
		}
		b.deliver(0)
		b.look("the client's asking")
		if kinds := b.kindsFlying(); len(kinds) != 1 || kinds[0] != api.Result {
			t.Errorf("P16: of the result of %q there fly %v", text, kinds)
		}
		b.deliver(0)
		if s, _ := b.world.Status(0, 0); s.State != api.Done || !same(s.Result, items(1, text)) {
			t.Errorf("P14: Status = %+v", s)
		}
	}
}

// TestServersTicksGoInOrder: of clients and lines, whenever the calls were done; and behind all clients' own.
func TestServersTicksGoInOrder(t *testing.T) {
	b := newAll(t, api.Config{Clients: 3, Lines: 3, Retry: 2, Tries: 2, Table: 9})
	b.done(0, 0, 2, 0, items(fourteen), items(1))
	for client := 2; client >= 0; client-- {
		for line := 2; line >= 0; line-- {
			b.call(client, line, 2, 1, items(9))
		}
	}
	for range 9 {
		b.deliver(0)
	}
	for range 9 {
		b.serve()
	}
	b.look("Serve")
	for len(b.words.flying) > 0 {
		b.drop(0)
	}
	b.tick()
	b.tick()
	b.look("two Ticks")
	for i := range 18 {
		_, s, e := b.world.Show(i)
		kind := api.Call
		if i >= 9 {
			kind = api.Result
		}
		if p := packetByWords(s); p.Kind != kind || p.Client != i%9/3 || p.Line != i%3 || e != api.OK {
			t.Errorf("P17: packet %d behind two Ticks is %s", i, told(p))
		}
	}
}

func TestLogAndEntryNameTheirErrors(t *testing.T) {
	b := newAll(t, configW)
	b.done(0, 0, 1, 0, items(5), items(5))
	b.done(1, 1, 1, 0, items(5), items(10))
	b.withdraw("sum")
	numbers := []int{-1, 0, 1, 2, 3, 4, 255, 256, 257, 1 << 32, 1<<32 + 1, math.MinInt, math.MinInt + 1, math.MaxInt}
	for _, uid := range numbers {
		n, e := b.world.Log(uid)
		wantN, wantE := 0, api.OK
		if uid < 1 || uid > 3 {
			wantE = api.ErrArg
		}
		if uid == 1 {
			wantN = 2
		}
		if n != wantN || e != wantE {
			t.Errorf("P18: Log(%d) = %d, %d, want %d, %d", uid, n, e, wantN, wantE)
		}
		for _, k := range numbers {
			x, e := b.world.Entry(uid, k)
			if isThere := uid == 1 && (k == 0 || k == 1); isThere != (e == api.OK) {
				t.Errorf("P18: Entry(%d, %d) = %+v, %d", uid, k, x, e)
			}
			if e != api.OK && (e != api.ErrArg || !sameEntry(x, api.Entry{})) {
				t.Errorf("P18: Entry(%d, %d) = %+v, %d", uid, k, x, e)
			}
		}
	}
	b.lookAtLogs("errors")
}

// TestEntriesTellWhatWasDone: of each service its own calls, in their order.
func TestEntriesTellWhatWasDone(t *testing.T) {
	b := newAll(t, api.Config{Clients: 3, Lines: 3, Retry: 3, Tries: 2, Table: 9})
	b.done(2, 1, 3, 0, items(2, 2, -5, 6), items(0, 0))
	b.done(0, 2, 2, 0, items("text"), items(1))
	b.done(2, 1, 3, 0, items(2, 0), items(1, 2, -5, 6))
	b.done(0, 2, 2, 1, items(7), items(1, "text"))
	b.done(1, 0, 1, 1, items(1), items(0))
	for _, c := range []struct {
		uid, k int
		want   api.Entry
	}{
		{1, 0, api.Entry{Client: 1, Life: 1, Line: 0, Seq: 1, Proc: 1, Arg: items(1), Result: items(0)}},
		{2, 0, api.Entry{Client: 0, Life: 1, Line: 2, Seq: 1, Proc: 0, Arg: items("text"), Result: items(1)}},
		{2, 1, api.Entry{Client: 0, Life: 1, Line: 2, Seq: 2, Proc: 1, Arg: items(7), Result: items(1, "text")}},
		{3, 0, api.Entry{Client: 2, Life: 1, Line: 1, Seq: 1, Proc: 0, Arg: items(2, 2, -5, 6), Result: items(0, 0)}},
		{3, 1, api.Entry{Client: 2, Life: 1, Line: 1, Seq: 2, Proc: 0, Arg: items(2, 0), Result: items(1, 2, -5, 6)}},
	} {
		for range 2 {
			x, e := b.world.Entry(c.uid, c.k)
			if !sameEntry(x, c.want) || e != api.OK {
				t.Errorf("P18: Entry(%d, %d) = %+v, %d, want %+v", c.uid, c.k, x, e, c.want)
			}
			writeInto(x.Arg, "written")
			writeInto(x.Result, "written")
		}
	}
	// What was written into is not what the services keep.
	b.done(0, 0, 2, 1, items(1), items(1, "text"))
	b.lookAtLogs("all")
}

// TestTheLogOutlivesTheService: and counts on with no other.
func TestTheLogOutlivesTheService(t *testing.T) {
	b := newAll(t, configW)
	b.done(0, 0, 1, 0, items(5), items(5))
	b.export("sum", api.Counter)
	b.bind(0, "sum")
	b.done(0, 0, 4, 0, items(6), items(6))
	b.withdraw("sum")
	if n := b.log("Withdraw", 1); n != 1 {
		t.Errorf("P18: Log(1) = %d", n)
	}
	if n := b.log("Withdraw", 4); n != 1 {
		t.Errorf("P18: Log(4) = %d", n)
	}
	b.lookAtLogs("Withdraw")
}
