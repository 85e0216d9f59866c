package errand_test

import (
	"fmt"
	"math/rand"
	"slices"
	"testing"

	"errand/api"
	"errand/errand"
)

// witness watches a world from outside and holds it to P20: it knows which calls were made, and reads the logs and the lines; of the words, and of how packets go, it knows nothing.
type witness struct {
	t      *testing.T
	world  *errand.World
	config api.Config
	life   [3]int
	made   map[callByWords]askedByWords
	done   map[callByWords][]api.Item // the results
	last   map[[3]int]int             // by client, life and line, the greatest seq of those that were done
	counts []int                      // of the services, how many calls were in their logs when it last looked
	dead   int                        // the services up to this uid were there ahead of a crash of the server
	ended  int                        // how many calls it saw end as Done
}

func newWitness(t *testing.T, c api.Config) *witness {
	t.Helper()
	w, e := errand.New(c)
	if e != api.OK {
		t.Fatalf("P9: New(%+v) = %d", c, e)
	}
	return &witness{
		t:      t,
		world:  w,
		config: c,
		life:   [3]int{1, 1, 1},
		made:   map[callByWords]askedByWords{},
		done:   map[callByWords][]api.Item{},
		last:   map[[3]int]int{},
	}
}

func (w *witness) export(name string, kind int) {
	w.t.Helper()
	if uid, e := w.world.Export(name, kind); e == api.OK {
		if w.counts = append(w.counts, 0); uid != len(w.counts) {
			w.t.Fatalf("P10: Export(%q, %d) = %d, want %d", name, kind, uid, len(w.counts))
		}
	}
}

func (w *witness) crash(host int) {
	w.t.Helper()
	e := w.world.Crash(host)
	switch {
	case host == api.Server:
		w.dead = len(w.counts)
	case e == api.OK:
		w.life[host]++
	}
}

// call makes a call, and remembers which one it is.
func (w *witness) call(client, line, uid, proc int, arg []api.Item) {
	w.t.Helper()
	seq, e := w.world.Call(client, line, uid, proc, arg)
	if e != api.OK {
		return
	}
	c := callByWords{client, w.life[client], line, seq}
	if _, isThere := w.made[c]; isThere {
		w.t.Fatalf("P20: the call %+v was made twice", c)
	}
	w.made[c] = askedByWords{uid: uid, proc: proc, arg: slices.Clone(arg)}
}

// look looks at what was done since it last did so, and at the lines; isServe tells whether the server was let do a call.
func (w *witness) look(behind string, isServe bool) {
	w.t.Helper()
	news := 0
	for i := range w.counts {
		n, _ := w.world.Log(i + 1)
		for k := w.counts[i]; k < n; k++ {
			x, _ := w.world.Entry(i+1, k)
			w.lookAtDone(behind, i+1, x)
			news++
		}
		w.counts[i] = n
	}
	if isServe && news != 1 || !isServe && news != 0 {
		w.t.Fatalf("P20: behind %s: %d calls were done", behind, news)
	}
	for client := range w.config.Clients {
		for line := range w.config.Lines {
			w.lookAtLine(behind, client, line)
		}
	}
}

func (w *witness) lookAtDone(behind string, uid int, x api.Entry) {
	w.t.Helper()
	c := callByWords{x.Client, x.Life, x.Line, x.Seq}
	made, isThere := w.made[c]
	if !isThere || made.uid != uid || made.proc != x.Proc || !same(made.arg, x.Arg) {
		w.t.Fatalf("P20: behind %s: service %d has done %+v, made was %+v (%t)", behind, uid, x, made, isThere)
	}
	if _, isThere := w.done[c]; isThere {
		w.t.Fatalf("P20: behind %s: the call %+v was done twice", behind, c)
	}
	at := [3]int{c.client, c.life, c.line}
	if c.seq <= w.last[at] {
		w.t.Fatalf("P20: behind %s: the call %+v was done behind that with the seq %d", behind, c, w.last[at])
	}
	if uid <= w.dead {
		w.t.Fatalf("P20: behind %s: the service %d, which was there ahead of a crash, has done %+v", behind, uid, x)
	}
	w.last[at], w.done[c] = c.seq, slices.Clone(x.Result)
}

func (w *witness) lookAtLine(behind string, client, line int) {
	w.t.Helper()
	s, _ := w.world.Status(client, line)
	if s.State != api.Done {
		return
	}
	c := callByWords{client, w.life[client], line, s.Seq}
	result, isThere := w.done[c]
	if !isThere || !same(result, s.Result) {
		w.t.Fatalf("P20: behind %s: the call %+v has the result %v, it was done (%t) with %v", behind, c, s.Result, isThere, result)
	}
	w.ended++
}

// begin exports a service of each kind, and binds the clients to all.
func (w *witness) begin() {
	w.t.Helper()
	for kind, name := range []string{"sum", "wall", "desk"} {
		w.export(name, kind)
		w.bindAll(name)
	}
}

func (w *witness) bindAll(name string) {
	for client := range w.config.Clients {
		w.world.Import(client, name)
	}
}

// draw lets something happen, and tells what; the calls are of one of the last three services, or of an older one, whose kind is that as long as all are made by begin.
func (w *witness) draw(r *rand.Rand) (string, bool) {
	w.t.Helper()
	flying := max(1, w.world.Flying())
	switch n := r.Intn(100); {
	case n < 20:
		uid := len(w.counts) - r.Intn(3)
		if r.Intn(10) == 0 {
			uid = 1 + r.Intn(len(w.counts))
		}
		kind := (uid - 1) % 3
		proc := r.Intn([]int{2, 2, 1}[kind])
		w.call(r.Intn(w.config.Clients), r.Intn(w.config.Lines), uid, proc, drawRightArgument(r, kind, proc))
		return "Call", false
	case n < 32:
		return "Serve", w.world.Serve() == api.OK
	case n < 40:
		w.world.Tick()
		return "Tick", false
	case n < 48:
		w.world.Copy(r.Intn(flying))
		return "Copy", false
	case n < 51:
		w.world.Drop(r.Intn(flying))
		return "Drop", false
	case n < 53:
		w.world.Bend(r.Intn(flying), r.Intn(13), 1+r.Intn(255))
		return "Bend", false
	case n < 54:
		return w.drawEvent(r), false
	}
	i := r.Intn(flying)
	w.world.Deliver(i)
	return fmt.Sprintf("Deliver(%d)", i), false
}

// drawEvent lets a host crash, or services end.
func (w *witness) drawEvent(r *rand.Rand) string {
	w.t.Helper()
	switch r.Intn(5) {
	case 0:
		w.crash(api.Server)
		w.begin()
		return "Crash(Server)"
	case 1:
		w.begin()
		return "Export"
	case 2:
		w.crash(api.Server)
		return "Crash(Server), with no service behind it"
	}
	host := r.Intn(w.config.Clients)
	w.crash(host)
	for _, name := range []string{"sum", "wall", "desk"} {
		w.bindAll(name)
	}
	return fmt.Sprintf("Crash(%d)", host)
}

// TestEachCallIsDoneAtMostOnce whatever the network does, and whoever crashes.
func TestEachCallIsDoneAtMostOnce(t *testing.T) {
	r := rand.New(rand.NewSource(20))
	done, ended := 0, 0
	for range 200 {
		w := newWitness(t, drawConfig(r))
		w.begin()
		for range 2500 {
			behind, isServe := w.draw(r)
			w.look(behind, isServe)
		}
		done += len(w.done)
		ended += w.ended
	}
	if done < 1000 || ended < 1000 {
		t.Errorf("P20: %d calls were done, %d looks saw one that ended so: too few to tell anything", done, ended)
	}
}

// TestNothingIsDoneByDeadServices: all packets that ever flew come again behind a crash, and the server serves; nothing is done but what was made behind it.
func TestNothingIsDoneByDeadServices(t *testing.T) {
	for _, hosts := range [][]int{{api.Server}, {0, api.Server}, {api.Server, 0}} {
		w := newWitness(t, configCrash)
		w.begin()
		for line := range 2 {
			w.call(0, line, 2, 0, items("hello"))
		}
		w.call(1, 0, 1, 0, items(5))
		// A copy of each packet stays: those are the first ones that fly.
		for i := 0; i < w.world.Flying() && w.world.Flying() < api.MaxFlying; i++ {
			w.world.Copy(i)
			w.world.Deliver(w.world.Flying() - 1)
			w.look("a copy", false)
		}
		w.look("Serve", w.world.Serve() == api.OK)
		for _, host := range hosts {
			w.crash(host)
		}
		kept := w.world.Flying()
		if kept < 6 {
			t.Fatalf("the test is wrong: %d packets fly", kept)
		}
		for range 3 {
			for i := range kept {
				w.world.Copy(i)
				w.world.Deliver(w.world.Flying() - 1)
				w.look("an earlier packet", false)
				if e := w.world.Serve(); e != api.ErrIdle {
					t.Fatalf("P20: Serve() behind a crash = %d", e)
				}
			}
			w.begin()
		}
		if len(w.done) != 1 {
			t.Errorf("P20: %d calls were done", len(w.done))
		}
	}
}
