package errand_test

import (
	"math"
	"strings"
	"testing"

	"errand/api"
)

// newAll is a world with a service of each kind, the Counter with the uid 1, the Board 2, the Desk 3; all clients are bound to all.
func newAll(t *testing.T, c api.Config) bothWorlds {
	t.Helper()
	b := newBoth(t, c)
	for kind, name := range []string{"sum", "wall", "desk"} {
		b.export(name, kind)
		for client := range c.Clients {
			b.bind(client, name)
		}
	}
	return b
}

// endCalls lets all calls that are under way end with Timeout, and loses all packets.
func (b bothWorlds) endCalls() {
	for range b.words.config.Retry * (b.words.config.Tries + 1) {
		b.tick()
	}
	for len(b.words.flying) > 0 {
		b.drop(0)
	}
}

func TestCallOfTheExample(t *testing.T) {
	b := newW(t)
	if seq, e := b.world.Call(0, 0, 1, 0, items(5)); seq != 1 || e != api.OK {
		t.Fatalf("P11: Call = %d, %d", seq, e)
	}
	want := string([]byte{1, 0, 1, 0, 0, 1, 1, 0, 1, 0, 4, 0, 0, 0, 5, 152, 31})
	if host, s, e := b.world.Show(0); host != api.Server || s != want || e != api.OK || b.world.Flying() != 1 {
		t.Errorf("P11: the first packet: %d, %v, %d", host, []byte(s), e)
	}
	if s, e := b.world.Status(0, 0); s.State != api.Waiting || s.Seq != 1 || len(s.Result) != 0 || e != api.OK {
		t.Errorf("P11: Status = %+v, %d", s, e)
	}
	for _, at := range [][2]int{{0, 1}, {1, 0}, {1, 1}} {
		if s, e := b.world.Status(at[0], at[1]); s.State != api.Idle || s.Seq != 0 || len(s.Result) != 0 || e != api.OK {
			t.Errorf("P11: Status(%d, %d) = %+v, %d", at[0], at[1], s, e)
		}
	}
}

// TestCallNamesTheFirstError: each row has one error more ahead of those of the row behind it.
func TestCallNamesTheFirstError(t *testing.T) {
	for _, c := range []struct {
		client, line, uid, proc int
		arg                     []api.Item
		e                       api.Errno
	}{
		{2, 2, 9, 9, nil, api.ErrClient}, {-1, -1, 0, -1, nil, api.ErrClient}, {math.MaxInt, 0, 1, 0, items(5), api.ErrClient}, {math.MinInt, 0, 1, 0, items(5), api.ErrClient},
		{0, 2, 9, 9, nil, api.ErrLine}, {0, -1, 1, 0, items(5), api.ErrLine}, {0, math.MaxInt, 1, 0, items(5), api.ErrLine}, {0, math.MinInt, 1, 0, items(5), api.ErrLine},
		{0, 0, 9, 9, nil, api.ErrBound}, {0, 0, 0, 0, items(5), api.ErrBound}, {0, 0, -1, 0, items(5), api.ErrBound}, {0, 0, 1 + 256, 0, items(5), api.ErrBound}, {0, 0, math.MaxInt, 0, items(5), api.ErrBound}, {0, 0, math.MinInt, 0, items(5), api.ErrBound}, {1, 0, 1, 0, items(5), api.ErrBound},
		{0, 0, 1, 2, nil, api.ErrProc}, {0, 0, 1, -1, nil, api.ErrProc}, {0, 0, 1, math.MaxInt, items(5), api.ErrProc}, {0, 0, 1, math.MinInt, items(5), api.ErrProc},
		{0, 0, 1, 0, nil, api.ErrValue}, {0, 0, 1, 0, items(32768), api.ErrValue}, {0, 0, 1, 0, items("5"), api.ErrValue}, {0, 0, 1, 0, items(5, 5), api.ErrValue},
		{0, 0, 1, 0, items(5), api.ErrBusy},
	} {
		busy := newW(t)
		busy.call(0, 0, 1, 0, items(5))
		if seq, e := busy.world.Call(c.client, c.line, c.uid, c.proc, c.arg); seq != 0 || e != c.e {
			t.Errorf("P11: Call(%d, %d, %d, %d, %v) on a busy line = %d, %d, want %d", c.client, c.line, c.uid, c.proc, c.arg, seq, e, c.e)
		}
		busy.look("a Call that was refused")
		busy.endCalls()
		busy.look("the Timeout behind a Call that was refused")
		if c.e == api.ErrBusy {
			continue
		}
		idle := newW(t)
		if seq, e := idle.world.Call(c.client, c.line, c.uid, c.proc, c.arg); seq != 0 || e != c.e {
			t.Errorf("P11: Call(%d, %d, %d, %d, %v) = %d, %d, want %d", c.client, c.line, c.uid, c.proc, c.arg, seq, e, c.e)
		}
		idle.look("a Call that was refused")
		idle.call(0, 0, 1, 0, items(5))
		idle.look("a Call behind one that was refused")
	}
}

func TestCallHoldsArgumentsToTheirTypes(t *testing.T) {
	arguments := [][]api.Item{
		nil, items(0), items(1), items(2), items(-1), items(5), items(32767), items(32768), items(-32768), items(-32769), items(65535), items(65536), items(math.MaxInt), items(math.MinInt), items(1 << 32), items(0, 0), items(1, 0),
		items(""), items("a"), items(fourteen), items(fourteen + "."), items("", ""), items(strings.Repeat("x", 1<<20)), {{N: 1, S: "a"}}, {{N: 0, S: "5"}},
		items(0, 1), items(0, 1, 7), items(2, 3, 1, -2, 3), items(2, 3, 1, -2), items(2, 3, 1, -2, 3, 4), items(3, 0), items(-1, 0), items(0, 4, 1, 2, 3, 4), items(0, -1), items(0, 1, 32768), items(0, 1, -32768), items(0, 1, ""), items(0, 1, "a"), items("a", 0), items(1, "a"), make([]api.Item, 100000),
	}
	b := newAll(t, configW)
	for uid := -1; uid <= 4; uid++ {
		for proc := -1; proc <= 3; proc++ {
			for _, arg := range arguments {
				b.call(1, 1, uid, proc, arg)
				b.look("Call")
				b.endCalls()
			}
		}
	}
}

func TestEachLineHasItsOwnCalls(t *testing.T) {
	b := newAll(t, api.Config{Clients: 3, Lines: 3, Retry: 2, Tries: 1, Table: 1})
	for round := range 4 {
		for client := range 3 {
			for line := range 3 {
				if (client+line+round)%2 == 0 {
					b.call(client, line, 1+(client+line)%3, 0, [][]api.Item{items(round), items("text"), items(1, 1, round)}[(client+line)%3])
					b.look("Call")
				}
			}
		}
		b.tick()
		b.tick()
		b.look("Ticks")
		b.endCalls()
		b.look("Timeouts")
	}
}

func TestCallIsSpent(t *testing.T) {
	b := newAll(t, api.Config{Clients: 2, Lines: 2, Retry: 1, Tries: 1, Table: 1})
	for seq := 1; seq <= 999; seq++ {
		if got, e := b.world.Call(1, 0, 1, 0, items(seq)); got != seq || e != api.OK {
			t.Fatalf("P11: Call number %d = %d, %d", seq, got, e)
		}
		b.words.call(1, 0, 1, 0, items(seq))
		if _, e := b.world.Call(1, 0, 1, 0, items(seq)); e != api.ErrBusy {
			t.Fatalf("P11: a second Call behind number %d: %d", seq, e)
		}
		b.look("Call")
		b.endCalls()
	}
	for _, c := range []struct {
		uid, proc int
		arg       []api.Item
		e         api.Errno
	}{{1, 0, items(5), api.ErrSpent}, {1, 0, items(""), api.ErrSpent}, {1, 0, items("5"), api.ErrValue}, {1, 2, items(5), api.ErrProc}, {4, 0, items(5), api.ErrBound}} {
		if seq, e := b.world.Call(1, 0, c.uid, c.proc, c.arg); seq != 0 || e != c.e {
			t.Errorf("P11: Call(1, 0, %d, %d, %v) behind 999 calls = %d, %d, want %d", c.uid, c.proc, c.arg, seq, e, c.e)
		}
	}
	b.look("999 calls")
	// The seqs of the other lines are their own.
	for _, at := range [][2]int{{1, 1}, {0, 0}} {
		if seq, e := b.world.Call(at[0], at[1], 1, 0, items(5)); seq != 1 || e != api.OK {
			t.Errorf("P11: Call on a line beside the spent one = %d, %d", seq, e)
		}
	}
}

func TestStatusNamesTheFirstError(t *testing.T) {
	b := newW(t)
	for _, n := range []int{-1, 2, 3, 256, 1 << 32, math.MinInt, math.MaxInt} {
		for _, line := range []int{0, n} {
			if s, e := b.world.Status(n, line); s.State != 0 || s.Seq != 0 || len(s.Result) != 0 || e != api.ErrClient {
				t.Errorf("P11: Status(%d, %d) = %+v, %d", n, line, s, e)
			}
		}
		if s, e := b.world.Status(1, n); s.State != 0 || s.Seq != 0 || len(s.Result) != 0 || e != api.ErrLine {
			t.Errorf("P11: Status(1, %d) = %+v, %d", n, s, e)
		}
	}
}

// TestStatusAnswersNewMemory writes into what Status answers, and behind it.
func TestStatusAnswersNewMemory(t *testing.T) {
	b := newW(t)
	b.call(0, 0, 1, 0, items(5))
	for range 3 {
		s, _ := b.world.Status(0, 0)
		s.State, s.Seq = 9, 9
		s.Result = append(s.Result, api.Item{N: 9})
		for i := range s.Result[:cap(s.Result)] {
			s.Result[:cap(s.Result)][i].N = 9
		}
		b.look("writing into a Status")
	}
}
