package errand_test

import (
	"slices"

	"errand/api"
)

// worldByWords is what the document says of a world in P9 to P19, written out plainly, with nothing of the program in it. It reads no messages: it knows which calls were made.
type worldByWords struct {
	config api.Config
	names  map[string]int
	kinds  []int // of the services, in the order of their uids
	ended  []bool
	bound  [3]map[int]int
	life   [3]int
	lines  [3][3]lineByWords
	asked  map[callByWords]askedByWords
	flying []flightByWords
	server serverByWords
}

// callByWords tells a call from all others.
type callByWords struct{ client, life, line, seq int }

type askedByWords struct {
	uid, proc int
	arg       []api.Item
	message   string
}

type lineByWords struct {
	state, seq, acked, has, wait, tries int
	result                              []api.Item
}

type flightByWords struct {
	host  int
	bytes string
	bent  bool
}

// newByWords is P9, with the bounds written out from the document.
func newByWords(c api.Config) (*worldByWords, api.Errno) {
	for _, f := range configFields() {
		if n := *f.field(&c); n < 1 || n > f.high {
			return nil, 8
		}
	}
	w := &worldByWords{config: c, names: map[string]int{}, life: [3]int{1, 1, 1}, asked: map[callByWords]askedByWords{}}
	for i := range w.bound {
		w.bound[i] = map[int]int{}
	}
	w.server.table = map[[2]int]*rememberedByWords{}
	return w, 0
}

func isNameByWords(name string) bool {
	for _, r := range name {
		if r < 'a' || r > 'z' {
			return false
		}
	}
	return len(name) >= 1 && len(name) <= 8
}

func (w *worldByWords) export(name string, kind int) (int, api.Errno) {
	before, isThere := w.names[name]
	switch {
	case !isNameByWords(name):
		return 0, 10
	case kind != 0 && kind != 1 && kind != 2:
		return 0, 9
	case !isThere && len(w.names) >= 6:
		return 0, 12
	case len(w.kinds) >= 255:
		return 0, 11
	}
	if isThere {
		w.end(before)
	}
	w.kinds = append(w.kinds, kind)
	w.ended = append(w.ended, false)
	w.server.services = append(w.server.services, serviceByWords{})
	w.names[name] = len(w.kinds)
	return len(w.kinds), 0
}

func (w *worldByWords) withdraw(name string) api.Errno {
	uid := w.names[name]
	if uid == 0 {
		return 10
	}
	delete(w.names, name)
	w.end(uid)
	return 0
}

func (w *worldByWords) hasClient(client int) bool { return client >= 0 && client < w.config.Clients }

func (w *worldByWords) hasLine(line int) bool { return line >= 0 && line < w.config.Lines }

func (w *worldByWords) bind(client int, name string) (int, int, api.Errno) {
	if !w.hasClient(client) {
		return 0, 0, 13
	}
	uid := w.names[name]
	if uid == 0 {
		return 0, 0, 10
	}
	w.bound[client][uid] = uid
	return uid, w.kinds[uid-1], 0
}

// isArgumentByWords tells whether it is a value of the type that the procedure's argument has.
func isArgumentByWords(kind, proc int, arg []api.Item) bool {
	number := func(i, low, high int) bool {
		return i < len(arg) && arg[i].S == "" && arg[i].N >= low && arg[i].N <= high
	}
	count, right := 1, false
	switch [2]int{kind, proc} {
	case [2]int{0, 0}:
		right = number(0, -32768, 32767)
	case [2]int{0, 1}:
		right = number(0, 0, 1)
	case [2]int{1, 0}:
		right = len(arg) > 0 && arg[0].N == 0 && len(arg[0].S) <= 14
	case [2]int{1, 1}:
		right = number(0, 0, 65535)
	case [2]int{2, 0}:
		right = number(0, 0, 2) && number(1, 0, 3)
		if right {
			count = 2 + arg[1].N
		}
		for i := 2; i < count; i++ {
			right = right && number(i, -32768, 32767)
		}
	}
	return right && len(arg) == count
}

// itemBytes are the bytes of a value whose first items are numbers, the others strings.
func itemBytes(list []api.Item, numbers int) string {
	bytes := ""
	for i, x := range list {
		if i < numbers {
			bytes += twoBytes(x.N)
			continue
		}
		bytes += twoBytes(len(x.S)) + x.S
		if len(x.S)%2 == 1 {
			bytes += "\x00"
		}
	}
	return bytes
}

func callMessage(kind, proc int, arg []api.Item) string {
	if kind == api.Board && proc == 0 {
		return twoBytes(proc) + itemBytes(arg, 0)
	}
	return twoBytes(proc) + itemBytes(arg, len(arg))
}

func resultMessage(kind, proc int, result []api.Item) string {
	if kind == api.Board && proc == 1 {
		return itemBytes(result, 1)
	}
	return itemBytes(result, len(result))
}

// pieces cuts a message up.
func pieces(message string) []string {
	var list []string
	for len(message) > 8 {
		list, message = append(list, message[:8]), message[8:]
	}
	return append(list, message)
}

func (w *worldByWords) call(client, line, uid, proc int, arg []api.Item) (int, api.Errno) {
	switch {
	case !w.hasClient(client):
		return 0, 13
	case !w.hasLine(line):
		return 0, 14
	case uid == 0 || w.bound[client][uid] != uid:
		return 0, 15
	}
	kind, procs := w.kinds[uid-1], []int{2, 2, 1}
	l := &w.lines[client][line]
	switch {
	case proc < 0 || proc >= procs[kind]:
		return 0, 16
	case !isArgumentByWords(kind, proc, arg):
		return 0, 4
	case l.state == 1:
		return 0, 17
	case l.seq == 999:
		return 0, 11
	}
	*l = lineByWords{state: 1, seq: l.seq + 1}
	w.asked[w.callOn(client, line)] = askedByWords{uid, proc, slices.Clone(arg), callMessage(kind, proc, arg)}
	w.restAnew(l)
	w.sendPiece(client, line, false)
	return l.seq, 0
}

func (w *worldByWords) status(client, line int) (api.Status, api.Errno) {
	if !w.hasClient(client) {
		return api.Status{}, 13
	}
	if !w.hasLine(line) {
		return api.Status{}, 14
	}
	l := w.lines[client][line]
	return api.Status{State: l.state, Seq: l.seq, Result: l.result}, 0
}

// crash is P19.
func (w *worldByWords) crash(host int) api.Errno {
	switch {
	case host == -1:
		w.serverCrash()
		return 0
	case !w.hasClient(host):
		return 13
	case w.life[host] == 255:
		return 11
	}
	w.life[host]++
	w.lines[host] = [3]lineByWords{}
	w.bound[host] = map[int]int{}
	return 0
}

// callOn is the last call of a line in this life.
func (w *worldByWords) callOn(client, line int) callByWords {
	return callByWords{client, w.life[client], line, w.lines[client][line].seq}
}

func (w *worldByWords) restAnew(l *lineByWords) { l.wait, l.tries = w.config.Retry, w.config.Tries }

// send lets a packet of that call fly, if there is room.
func (w *worldByWords) send(host int, c callByWords, p api.Packet) {
	if len(w.flying) >= 40 {
		return
	}
	p.Client, p.Life, p.Line, p.Seq, p.Uid = c.client, c.life, c.line, c.seq, w.asked[c].uid
	w.flying = append(w.flying, flightByWords{host: host, bytes: packetBytes(p)})
}

// sendPiece sends the piece number acked.
func (w *worldByWords) sendPiece(client, line int, wasSent bool) {
	c, acked := w.callOn(client, line), w.lines[client][line].acked
	all := pieces(w.asked[c].message)
	w.send(-1, c, api.Packet{Kind: 1, Part: acked, Of: len(all), Please: wasSent || acked < len(all)-1, Body: all[acked]})
}

func (w *worldByWords) tick() {
	for client := range w.config.Clients {
		for line := range w.config.Lines {
			if w.lines[client][line].state == 1 {
				w.tickOf(client, line)
			}
		}
	}
	w.serverTick()
}

func (w *worldByWords) tickOf(client, line int) {
	l, c := &w.lines[client][line], w.callOn(client, line)
	l.wait--
	if l.wait != 0 {
		return
	}
	if l.tries == 0 {
		l.state = 3
		return
	}
	l.tries--
	l.wait = w.config.Retry
	if l.acked < len(pieces(w.asked[c].message)) {
		w.sendPiece(client, line, true)
		return
	}
	w.send(-1, c, api.Packet{Kind: 3, Part: 0, Of: 1, Please: true})
}

func (w *worldByWords) isFlying(i int) bool { return i >= 0 && i < len(w.flying) }

func (w *worldByWords) drop(i int) api.Errno {
	if !w.isFlying(i) {
		return 9
	}
	w.flying = append(slices.Clone(w.flying[:i]), w.flying[i+1:]...)
	return 0
}

func (w *worldByWords) copy(i int) api.Errno {
	if !w.isFlying(i) {
		return 9
	}
	if len(w.flying) >= 40 {
		return 12
	}
	w.flying = append(w.flying, w.flying[i])
	return 0
}

func (w *worldByWords) bend(i, at, by int) api.Errno {
	if !w.isFlying(i) || at < 0 || at >= len(w.flying[i].bytes) || by < 1 || by > 255 {
		return 9
	}
	if w.flying[i].bent {
		return 18
	}
	b := []byte(w.flying[i].bytes)
	b[at] ^= byte(by)
	w.flying[i] = flightByWords{host: w.flying[i].host, bytes: string(b), bent: true}
	return 0
}

func (w *worldByWords) deliver(i int) api.Errno {
	if !w.isFlying(i) {
		return 9
	}
	f := w.flying[i]
	w.drop(i)
	switch {
	case f.bent:
	case f.host == -1:
		w.serverTakes(packetByWords(f.bytes))
	default:
		w.clientTakes(f.host, packetByWords(f.bytes))
	}
	return 0
}

// clientTakes is what P14 says of a packet that comes to a client.
func (w *worldByWords) clientTakes(client int, p api.Packet) {
	l := &w.lines[client][p.Line]
	if l.state != 1 || w.life[client] != p.Life || l.seq != p.Seq {
		return
	}
	c := w.callOn(client, p.Line)
	n := len(pieces(w.asked[c].message))
	switch p.Kind {
	case 2:
		if p.Part == l.acked {
			l.acked++
			if l.acked < n {
				w.sendPiece(client, p.Line, false)
			}
			w.restAnew(l)
		}
	case 4:
		w.restAnew(l)
	case 5:
		w.clientTakesResult(l, c, n, p)
	case 7:
		*l = lineByWords{state: 5, seq: l.seq}
		if p.Part == 0 {
			l.state = 4
		}
	}
}

func (w *worldByWords) clientTakesResult(l *lineByWords, c callByWords, n int, p api.Packet) {
	got := api.Packet{Kind: 6, Part: p.Part, Of: p.Of}
	switch {
	case l.acked < n-1 || p.Part > l.has:
	case p.Part < l.has:
		w.send(-1, c, got)
	case l.has+1 == p.Of:
		*l = lineByWords{state: 2, seq: l.seq, result: w.server.results[c]}
	default:
		l.has++
		l.acked = n
		w.send(-1, c, got)
		w.restAnew(l)
	}
}
