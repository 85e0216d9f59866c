package errand_test

import (
	"math/rand"
	"testing"

	"errand/api"
)

// callAll makes a call on each line.
func (b bothWorlds) callAll(r *rand.Rand) {
	b.t.Helper()
	for client := range b.words.config.Clients {
		for line := range b.words.config.Lines {
			kind := r.Intn(3)
			proc := r.Intn([]int{2, 2, 1}[kind])
			if e := b.call(client, line, kind+1, proc, drawRightArgument(r, kind, proc)); e != api.OK {
				b.t.Fatalf("P11: Call = %d", e)
			}
		}
	}
}

// testAllDone looks whether each line's call, which is that one, is done, with the result that the log tells; and once.
func (b bothWorlds) testAllDone(seq int) {
	b.t.Helper()
	times := map[[2]int]int{}
	for uid := 1; uid <= 3; uid++ {
		count, _ := b.world.Log(uid)
		for k := range count {
			x, _ := b.world.Entry(uid, k)
			if x.Seq != seq {
				continue
			}
			times[[2]int{x.Client, x.Line}]++
			if s, e := b.world.Status(x.Client, x.Line); s.State != api.Done || s.Seq != seq || !same(s.Result, x.Result) || e != api.OK {
				b.t.Errorf("P21: Status(%d, %d) = %+v, %d, done was %+v", x.Client, x.Line, s, e, x)
			}
		}
	}
	for client := range b.words.config.Clients {
		for line := range b.words.config.Lines {
			if n := times[[2]int{client, line}]; n != 1 {
				b.t.Errorf("P21: the call %d of client %d, line %d was done %d times", seq, client, line, n)
			}
		}
	}
}

// drawRoomyConfig makes one with room for all lines.
func drawRoomyConfig(r *rand.Rand) api.Config {
	c := drawConfig(r)
	c.Table = c.Clients*c.Lines + r.Intn(10-c.Clients*c.Lines)
	return c
}

// TestEveryCallEndsDone: what flies is delivered at once, in any order, some of it twice; the server serves at any time.
func TestEveryCallEndsDone(t *testing.T) {
	r := rand.New(rand.NewSource(21))
	for range 150 {
		b := newAll(t, drawRoomyConfig(r))
		for seq := 1; seq <= 8; seq++ {
			b.callAll(r)
			for range 2000 {
				if len(b.words.flying) == 0 && b.serve() == api.ErrIdle {
					break
				}
				if len(b.words.flying) == 0 {
					continue
				}
				i := r.Intn(len(b.words.flying))
				if r.Intn(8) == 0 && len(b.words.flying) < 30 {
					b.copy(i)
				}
				b.deliver(i)
				if r.Intn(3) == 0 {
					b.serve()
				}
			}
			b.look("all")
			b.testAllDone(seq)
		}
		b.lookAtLogs("all")
	}
}

// TestEveryCallEndsDoneInTime: with ticks between, behind each of which all that flies is delivered, the server serves too late now and then.
func TestEveryCallEndsDoneInTime(t *testing.T) {
	r := rand.New(rand.NewSource(22))
	for range 60 {
		b := newAll(t, drawRoomyConfig(r))
		for seq := 1; seq <= 4; seq++ {
			b.callAll(r)
			for range 100 {
				b.deliverAll()
				b.tick()
				if r.Intn(6) == 0 {
					b.serve()
				}
			}
			for b.serve() == api.OK {
				b.deliverAll()
			}
			b.deliverAll()
			b.testAllDone(seq)
		}
	}
}

// TestNothingIsEverDelivered: each call ends behind just Retry times (Tries + 1) ticks, whatever kind it is of.
func TestNothingIsEverDelivered(t *testing.T) {
	r := rand.New(rand.NewSource(23))
	for retry := 1; retry <= 8; retry++ {
		for tries := 1; tries <= 6; tries++ {
			b := newAll(t, api.Config{Clients: 3, Lines: 3, Retry: retry, Tries: tries, Table: 9})
			b.callAll(r)
			for ticks := 1; ticks <= retry*(tries+1); ticks++ {
				b.tick()
				b.serve()
				for client := range 3 {
					for line := range 3 {
						s, _ := b.world.Status(client, line)
						if isOver := ticks == retry*(tries+1); (s.State == api.Timeout) != isOver || !isOver && s.State != api.Waiting {
							t.Fatalf("P21: Retry %d, Tries %d, behind %d ticks: %+v", retry, tries, ticks, s)
						}
					}
				}
			}
		}
	}
}
