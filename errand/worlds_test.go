package errand_test

import (
	"fmt"
	"slices"
	"testing"

	"errand/api"
	"errand/errand"
)

// bothWorlds is a world of the program, beside what the document says of it.
type bothWorlds struct {
	t     *testing.T
	world *errand.World
	words *worldByWords
}

func newBoth(t *testing.T, c api.Config) bothWorlds {
	t.Helper()
	w, e := errand.New(c)
	words, wordsE := newByWords(c)
	if e != wordsE || e != api.OK || w == nil {
		t.Fatalf("P9: New(%+v) = %v, %d, want %d", c, w, e, wordsE)
	}
	return bothWorlds{t, w, words}
}

// look holds all that can be seen of the world against the words, but for the older entries of the logs.
func (b bothWorlds) look(behind string) {
	b.t.Helper()
	if n := b.world.Flying(); n != len(b.words.flying) {
		b.t.Fatalf("P13: behind %s: Flying() = %d, want %d", behind, n, len(b.words.flying))
	}
	for i, f := range b.words.flying {
		if host, s, e := b.world.Show(i); host != f.host || s != f.bytes || e != api.OK {
			b.t.Fatalf("P13: behind %s: Show(%d) = %d, %v, %d, want %d, %v", behind, i, host, []byte(s), e, f.host, []byte(f.bytes))
		}
	}
	for client := range b.words.config.Clients {
		for line := range b.words.config.Lines {
			b.lookAt(behind, client, line)
		}
	}
	for i := range b.words.kinds {
		if last := b.log(behind, i+1) - 1; last >= 0 {
			b.entry(behind, i+1, last)
		}
	}
}

// lookAt looks at a line; it writes into the result, and behind it, so that whatever hangs on that is seen by the next look.
func (b bothWorlds) lookAt(behind string, client, line int) {
	b.t.Helper()
	want, wantE := b.words.status(client, line)
	s, e := b.world.Status(client, line)
	if s.State != want.State || s.Seq != want.Seq || !same(s.Result, want.Result) || e != wantE {
		b.t.Fatalf("P11: behind %s: Status(%d, %d) = %+v, %d, want %+v, %d", behind, client, line, s, e, want, wantE)
	}
	writeInto(s.Result, "the result")
}

// log looks at how many calls a service has done, and tells it.
func (b bothWorlds) log(behind string, uid int) int {
	b.t.Helper()
	n, e := b.world.Log(uid)
	if want, wantE := b.words.log(uid); n != want || e != wantE {
		b.t.Fatalf("P18: behind %s: Log(%d) = %d, %d, want %d, %d", behind, uid, n, e, want, wantE)
	}
	return n
}

// entry looks at a call that a service has done, and writes into both lists, and behind them.
func (b bothWorlds) entry(behind string, uid, k int) {
	b.t.Helper()
	want, wantE := b.words.entry(uid, k)
	x, e := b.world.Entry(uid, k)
	if !sameEntry(x, want) || e != wantE {
		b.t.Fatalf("P18: behind %s: Entry(%d, %d) = %+v, %d, want %+v, %d", behind, uid, k, x, e, want, wantE)
	}
	writeInto(x.Arg, "the argument")
	if !same(x.Result, want.Result) {
		b.t.Fatalf("P2: behind %s: the lists of Entry(%d, %d) share memory", behind, uid, k)
	}
	writeInto(x.Result, "the result")
	for _, i := range x.Arg {
		if i.S != "the argument" {
			b.t.Fatalf("P2: behind %s: the lists of Entry(%d, %d) share memory", behind, uid, k)
		}
	}
}

// lookAtLogs looks at all entries, and at the places beside them.
func (b bothWorlds) lookAtLogs(behind string) {
	b.t.Helper()
	for uid := -1; uid <= len(b.words.kinds)+1; uid++ {
		count := b.log(behind, uid)
		for k := -1; k <= count; k++ {
			b.entry(behind, uid, k)
		}
	}
}

func writeInto(list []api.Item, what string) {
	whole := list[:cap(list)]
	for i := range whole {
		whole[i] = api.Item{N: 99, S: what}
	}
}

func sameEntry(a, b api.Entry) bool {
	isSame := same(a.Arg, b.Arg) && same(a.Result, b.Result)
	return isSame && a.Client == b.Client && a.Life == b.Life && a.Line == b.Line && a.Seq == b.Seq && a.Proc == b.Proc
}

func (b bothWorlds) export(name string, kind int) int {
	b.t.Helper()
	uid, e := b.world.Export(name, kind)
	if want, wantE := b.words.export(name, kind); uid != want || e != wantE {
		b.t.Fatalf("P10: Export(%.60q, %d) = %d, %d, want %d, %d", name, kind, uid, e, want, wantE)
	}
	return uid
}

func (b bothWorlds) withdraw(name string) {
	b.t.Helper()
	if e, want := b.world.Withdraw(name), b.words.withdraw(name); e != want {
		b.t.Fatalf("P10: Withdraw(%.60q) = %d, want %d", name, e, want)
	}
}

func (b bothWorlds) bind(client int, name string) int {
	b.t.Helper()
	uid, kind, e := b.world.Import(client, name)
	if want, wantK, wantE := b.words.bind(client, name); uid != want || kind != wantK || e != wantE {
		b.t.Fatalf("P10: Import(%d, %.60q) = %d, %d, %d, want %d, %d, %d", client, name, uid, kind, e, want, wantK, wantE)
	}
	return uid
}

// call hands in a list with something behind it, looks whether all of that stays, and writes into all of it behind the call.
func (b bothWorlds) call(client, line, uid, proc int, arg []api.Item) api.Errno {
	b.t.Helper()
	want, wantE := b.words.call(client, line, uid, proc, arg)
	room := append(slices.Clone(arg), items(77, "behind", 78, "it")...)
	before := slices.Clone(room)
	seq, e := b.world.Call(client, line, uid, proc, room[:len(arg)])
	if seq != want || e != wantE {
		b.t.Fatalf("P11: Call(%d, %d, %d, %d, %s) = %d, %d, want %d, %d", client, line, uid, proc, toldItems(arg), seq, e, want, wantE)
	}
	if !same(room, before) {
		b.t.Fatalf("P2: Call(%d, %d, %d, %d, %s) changed the list or what stands behind it: %s", client, line, uid, proc, toldItems(arg), toldItems(room))
	}
	for i := range room {
		room[i] = api.Item{N: 1, S: "written"}
	}
	return e
}

func (b bothWorlds) tick() {
	b.world.Tick()
	b.words.tick()
}

func (b bothWorlds) show(i int) {
	b.t.Helper()
	host, s, e := b.world.Show(i)
	var want flightByWords
	wantE := api.ErrArg
	if b.words.isFlying(i) {
		want, wantE = b.words.flying[i], api.OK
	}
	if host != want.host || s != want.bytes || e != wantE {
		b.t.Fatalf("P13: Show(%d) = %d, %v, %d, want %d, %v, %d", i, host, []byte(s), e, want.host, []byte(want.bytes), wantE)
	}
}

func (b bothWorlds) status(client, line int) {
	b.t.Helper()
	b.lookAt("something", client, line)
}

func (b bothWorlds) deliver(i int) {
	b.t.Helper()
	if e, want := b.world.Deliver(i), b.words.deliver(i); e != want {
		b.t.Fatalf("P14: Deliver(%d) = %d, want %d", i, e, want)
	}
}

func (b bothWorlds) serve() api.Errno {
	b.t.Helper()
	e := b.world.Serve()
	if want := b.words.serve(); e != want {
		b.t.Fatalf("P17: Serve() = %d, want %d", e, want)
	}
	return e
}

func (b bothWorlds) crash(host int) api.Errno {
	b.t.Helper()
	e := b.world.Crash(host)
	if want := b.words.crash(host); e != want {
		b.t.Fatalf("P19: Crash(%d) = %d, want %d", host, e, want)
	}
	return e
}

func (b bothWorlds) drop(i int) {
	b.t.Helper()
	if e, want := b.world.Drop(i), b.words.drop(i); e != want {
		b.t.Fatalf("P13: Drop(%d) = %d, want %d", i, e, want)
	}
}

func (b bothWorlds) copy(i int) {
	b.t.Helper()
	if e, want := b.world.Copy(i), b.words.copy(i); e != want {
		b.t.Fatalf("P13: Copy(%d) = %d, want %d", i, e, want)
	}
}

func (b bothWorlds) bend(i, at, by int) {
	b.t.Helper()
	if e, want := b.world.Bend(i, at, by), b.words.bend(i, at, by); e != want {
		b.t.Fatalf("P13: Bend(%d, %d, %d) = %d, want %d", i, at, by, e, want)
	}
}

// toldItems is a list as a failed test tells it: there may be any number of items, with any bytes in them.
func toldItems(list []api.Item) string {
	cut := slices.Clone(list[:min(len(list), 10)])
	for i, x := range cut {
		cut[i].S = x.S[:min(len(x.S), 30)]
	}
	return fmt.Sprintf("%#v (%d items)", cut, len(list))
}

// configW is that of the document's world W.
var configW = api.Config{Clients: 2, Lines: 2, Retry: 3, Tries: 2, Table: 2}

// newW is the world W, ahead of its first call: a Counter with the uid 1, to which client 0 is bound.
func newW(t *testing.T) bothWorlds {
	t.Helper()
	b := newBoth(t, configW)
	b.export("sum", api.Counter)
	b.bind(0, "sum")
	return b
}
