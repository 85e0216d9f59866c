package errand_test

import (
	"fmt"
	"slices"
	"testing"

	"errand/api"
	"errand/errand"
)

// worldByWords is what the document says of a world in P9 to P13, written out plainly, with nothing of the program in it.
type worldByWords struct {
	config api.Config
	names  map[string]int
	kinds  []int // of the services, in the order of their uids
	bound  [3]map[int]int
	lines  [3][3]lineByWords
	flying []flightByWords
}

type lineByWords struct {
	state, seq, uid, wait, tries int
	message                      string
}

type flightByWords struct {
	host  int
	bytes string
	bent  bool
}

// newByWords is P9, with the bounds written out from the document.
func newByWords(c api.Config) (*worldByWords, api.Errno) {
	for _, f := range configFields() {
		if n := *f.field(&c); n < 1 || n > f.high {
			return nil, 8
		}
	}
	w := &worldByWords{config: c, names: map[string]int{}}
	for i := range w.bound {
		w.bound[i] = map[int]int{}
	}
	return w, 0
}

func isNameByWords(name string) bool {
	for _, r := range name {
		if r < 'a' || r > 'z' {
			return false
		}
	}
	return len(name) >= 1 && len(name) <= 8
}

func (w *worldByWords) export(name string, kind int) (int, api.Errno) {
	_, isThere := w.names[name]
	switch {
	case !isNameByWords(name):
		return 0, 10
	case kind != 0 && kind != 1 && kind != 2:
		return 0, 9
	case !isThere && len(w.names) >= 6:
		return 0, 12
	case len(w.kinds) >= 255:
		return 0, 11
	}
	w.kinds = append(w.kinds, kind)
	w.names[name] = len(w.kinds)
	return len(w.kinds), 0
}

func (w *worldByWords) withdraw(name string) api.Errno {
	if w.names[name] == 0 {
		return 10
	}
	delete(w.names, name)
	return 0
}

func (w *worldByWords) hasClient(client int) bool { return client >= 0 && client < w.config.Clients }

func (w *worldByWords) hasLine(line int) bool { return line >= 0 && line < w.config.Lines }

func (w *worldByWords) bind(client int, name string) (int, int, api.Errno) {
	if !w.hasClient(client) {
		return 0, 0, 13
	}
	uid := w.names[name]
	if uid == 0 {
		return 0, 0, 10
	}
	w.bound[client][uid] = uid
	return uid, w.kinds[uid-1], 0
}

// argumentByWords tells the bytes of an argument, and whether it is a value of the type that the procedure's argument has.
func argumentByWords(kind, proc int, arg []api.Item) (string, bool) {
	number := func(i, low, high int) bool {
		return i < len(arg) && arg[i].S == "" && arg[i].N >= low && arg[i].N <= high
	}
	count, right := 1, false
	switch [2]int{kind, proc} {
	case [2]int{0, 0}:
		right = number(0, -32768, 32767)
	case [2]int{0, 1}:
		right = number(0, 0, 1)
	case [2]int{1, 0}:
		right = len(arg) > 0 && arg[0].N == 0 && len(arg[0].S) <= 14
	case [2]int{1, 1}:
		right = number(0, 0, 65535)
	case [2]int{2, 0}:
		right = number(0, 0, 2) && number(1, 0, 3)
		if right {
			count = 2 + arg[1].N
		}
		for i := 2; i < count; i++ {
			right = right && number(i, -32768, 32767)
		}
	}
	if !right || len(arg) != count {
		return "", false
	}
	bytes := ""
	for _, x := range arg {
		if kind != 1 || proc != 0 {
			bytes += twoBytes(x.N)
			continue
		}
		bytes += twoBytes(len(x.S)) + x.S
		if len(x.S)%2 == 1 {
			bytes += "\x00"
		}
	}
	return bytes, true
}

func (w *worldByWords) call(client, line, uid, proc int, arg []api.Item) (int, api.Errno) {
	switch {
	case !w.hasClient(client):
		return 0, 13
	case !w.hasLine(line):
		return 0, 14
	case uid == 0 || w.bound[client][uid] != uid:
		return 0, 15
	}
	kind, procs := w.kinds[uid-1], []int{2, 2, 1}
	if proc < 0 || proc >= procs[kind] {
		return 0, 16
	}
	bytes, right := argumentByWords(kind, proc, arg)
	l := &w.lines[client][line]
	switch {
	case !right:
		return 0, 4
	case l.state == 1:
		return 0, 17
	case l.seq == 999:
		return 0, 11
	}
	*l = lineByWords{state: 1, seq: l.seq + 1, uid: uid, wait: w.config.Retry, tries: w.config.Tries, message: twoBytes(proc) + bytes}
	w.sendFirstPiece(client, line, len(l.message) > 8)
	return l.seq, 0
}

// sendFirstPiece is all that a client sends as long as nothing is delivered.
func (w *worldByWords) sendFirstPiece(client, line int, please bool) {
	if len(w.flying) >= 40 {
		return
	}
	l := w.lines[client][line]
	pieces := 0
	for left := len(l.message); left > 0; left -= 8 {
		pieces++
	}
	p := api.Packet{Kind: 1, Client: client, Life: 1, Line: line, Seq: l.seq, Uid: l.uid, Part: 0, Of: pieces, Please: please, Body: l.message}
	if len(p.Body) > 8 {
		p.Body = p.Body[:8]
	}
	w.flying = append(w.flying, flightByWords{host: -1, bytes: packetBytes(p)})
}

func (w *worldByWords) tick() {
	for client := range w.config.Clients {
		for line := range w.config.Lines {
			l := &w.lines[client][line]
			if l.state != 1 {
				continue
			}
			l.wait--
			if l.wait != 0 {
				continue
			}
			if l.tries == 0 {
				l.state = 3
				continue
			}
			l.tries--
			l.wait = w.config.Retry
			w.sendFirstPiece(client, line, true)
		}
	}
}

func (w *worldByWords) isFlying(i int) bool { return i >= 0 && i < len(w.flying) }

func (w *worldByWords) drop(i int) api.Errno {
	if !w.isFlying(i) {
		return 9
	}
	w.flying = append(slices.Clone(w.flying[:i]), w.flying[i+1:]...)
	return 0
}

func (w *worldByWords) copy(i int) api.Errno {
	if !w.isFlying(i) {
		return 9
	}
	if len(w.flying) >= 40 {
		return 12
	}
	w.flying = append(w.flying, w.flying[i])
	return 0
}

func (w *worldByWords) bend(i, at, by int) api.Errno {
	if !w.isFlying(i) || at < 0 || at >= len(w.flying[i].bytes) || by < 1 || by > 255 {
		return 9
	}
	if w.flying[i].bent {
		return 18
	}
	b := []byte(w.flying[i].bytes)
	b[at] ^= byte(by)
	w.flying[i] = flightByWords{host: w.flying[i].host, bytes: string(b), bent: true}
	return 0
}

// bothWorlds is a world of the program, beside what the document says of it.
type bothWorlds struct {
	t     *testing.T
	world *errand.World
	words *worldByWords
}

func newBoth(t *testing.T, c api.Config) bothWorlds {
	t.Helper()
	w, e := errand.New(c)
	words, wordsE := newByWords(c)
	if e != wordsE || e != api.OK || w == nil {
		t.Fatalf("P9: New(%+v) = %v, %d, want %d", c, w, e, wordsE)
	}
	return bothWorlds{t, w, words}
}

// look holds all that can be seen of the world against the words.
func (b bothWorlds) look(behind string) {
	b.t.Helper()
	if n := b.world.Flying(); n != len(b.words.flying) {
		b.t.Fatalf("P13: behind %s: Flying() = %d, want %d", behind, n, len(b.words.flying))
	}
	for i, f := range b.words.flying {
		if host, s, e := b.world.Show(i); host != f.host || s != f.bytes || e != api.OK {
			b.t.Fatalf("P13: behind %s: Show(%d) = %d, %v, %d, want %d, %v", behind, i, host, []byte(s), e, f.host, []byte(f.bytes))
		}
	}
	for client := range b.words.config.Clients {
		for line := range b.words.config.Lines {
			l := b.words.lines[client][line]
			if s, e := b.world.Status(client, line); s.State != l.state || s.Seq != l.seq || len(s.Result) != 0 || e != api.OK {
				b.t.Fatalf("P11: behind %s: Status(%d, %d) = %+v, %d, want %d, %d", behind, client, line, s, e, l.state, l.seq)
			}
		}
	}
}

func (b bothWorlds) export(name string, kind int) int {
	b.t.Helper()
	uid, e := b.world.Export(name, kind)
	if want, wantE := b.words.export(name, kind); uid != want || e != wantE {
		b.t.Fatalf("P10: Export(%.60q, %d) = %d, %d, want %d, %d", name, kind, uid, e, want, wantE)
	}
	return uid
}

func (b bothWorlds) withdraw(name string) {
	b.t.Helper()
	if e, want := b.world.Withdraw(name), b.words.withdraw(name); e != want {
		b.t.Fatalf("P10: Withdraw(%.60q) = %d, want %d", name, e, want)
	}
}

func (b bothWorlds) bind(client int, name string) int {
	b.t.Helper()
	uid, kind, e := b.world.Import(client, name)
	if want, wantK, wantE := b.words.bind(client, name); uid != want || kind != wantK || e != wantE {
		b.t.Fatalf("P10: Import(%d, %.60q) = %d, %d, %d, want %d, %d, %d", client, name, uid, kind, e, want, wantK, wantE)
	}
	return uid
}

// call hands in a list with something behind it, looks whether all of that stays, and writes into all of it behind the call.
func (b bothWorlds) call(client, line, uid, proc int, arg []api.Item) api.Errno {
	b.t.Helper()
	want, wantE := b.words.call(client, line, uid, proc, arg)
	room := append(slices.Clone(arg), items(77, "behind", 78, "it")...)
	before := slices.Clone(room)
	seq, e := b.world.Call(client, line, uid, proc, room[:len(arg)])
	if seq != want || e != wantE {
		b.t.Fatalf("P11: Call(%d, %d, %d, %d, %s) = %d, %d, want %d, %d", client, line, uid, proc, toldItems(arg), seq, e, want, wantE)
	}
	if !same(room, before) {
		b.t.Fatalf("P2: Call(%d, %d, %d, %d, %s) changed the list or what stands behind it: %s", client, line, uid, proc, toldItems(arg), toldItems(room))
	}
	for i := range room {
		room[i] = api.Item{N: 1, S: "written"}
	}
	return e
}

func (b bothWorlds) tick() {
	b.world.Tick()
	b.words.tick()
}

func (b bothWorlds) show(i int) {
	b.t.Helper()
	host, s, e := b.world.Show(i)
	var want flightByWords
	wantE := api.ErrArg
	if b.words.isFlying(i) {
		want, wantE = b.words.flying[i], api.OK
	}
	if host != want.host || s != want.bytes || e != wantE {
		b.t.Fatalf("P13: Show(%d) = %d, %v, %d, want %d, %v, %d", i, host, []byte(s), e, want.host, []byte(want.bytes), wantE)
	}
}

func (b bothWorlds) status(client, line int) {
	b.t.Helper()
	var want lineByWords
	wantE := api.OK
	switch {
	case !b.words.hasClient(client):
		wantE = api.ErrClient
	case !b.words.hasLine(line):
		wantE = api.ErrLine
	default:
		want = b.words.lines[client][line]
	}
	if s, e := b.world.Status(client, line); s.State != want.state || s.Seq != want.seq || len(s.Result) != 0 || e != wantE {
		b.t.Fatalf("P11: Status(%d, %d) = %+v, %d, want %d, %d, %d", client, line, s, e, want.state, want.seq, wantE)
	}
}

func (b bothWorlds) drop(i int) {
	b.t.Helper()
	if e, want := b.world.Drop(i), b.words.drop(i); e != want {
		b.t.Fatalf("P13: Drop(%d) = %d, want %d", i, e, want)
	}
}

func (b bothWorlds) copy(i int) {
	b.t.Helper()
	if e, want := b.world.Copy(i), b.words.copy(i); e != want {
		b.t.Fatalf("P13: Copy(%d) = %d, want %d", i, e, want)
	}
}

func (b bothWorlds) bend(i, at, by int) {
	b.t.Helper()
	if e, want := b.world.Bend(i, at, by), b.words.bend(i, at, by); e != want {
		b.t.Fatalf("P13: Bend(%d, %d, %d) = %d, want %d", i, at, by, e, want)
	}
}

// toldItems is a list as a failed test tells it: there may be any number of items, with any bytes in them.
func toldItems(list []api.Item) string {
	cut := slices.Clone(list[:min(len(list), 10)])
	for i, x := range cut {
		cut[i].S = x.S[:min(len(x.S), 30)]
	}
	return fmt.Sprintf("%#v (%d items)", cut, len(list))
}

// configW is that of the document's world W.
var configW = api.Config{Clients: 2, Lines: 2, Retry: 3, Tries: 2, Table: 2}

// newW is the world W, ahead of its first call: a Counter with the uid 1, to which client 0 is bound.
func newW(t *testing.T) bothWorlds {
	t.Helper()
	b := newBoth(t, configW)
	b.export("sum", api.Counter)
	b.bind(0, "sum")
	return b
}
