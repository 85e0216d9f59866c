package errand_test

import (
	"fmt"
	"math/rand"
	"slices"
	"testing"

	"errand/api"
	"errand/network"
	"errand/server"
)

// looseServer is a server that is handed packets without a network to it, beside what the document says of it: so it gets those too that no client of a world would send at that time.
type looseServer struct {
	t      *testing.T
	net    *network.Network
	server *server.Server
	words  *worldByWords
}

// configLoose: all lines that there may be, and few of them at a time.
var configLoose = api.Config{Clients: 3, Lines: 3, Retry: 2, Tries: 1, Table: 2}

// newLooseServer is such a server with a service of each kind, the uid of each is 1 more than its kind.
func newLooseServer(t *testing.T, c api.Config) looseServer {
	t.Helper()
	words, e := newByWords(c)
	if e != api.OK {
		t.Fatalf("New(%+v) = %d", c, e)
	}
	net := &network.Network{}
	l := looseServer{t, net, server.New(c, net), words}
	for kind, name := range []string{"sum", "wall", "desk"} {
		l.export(name, kind)
	}
	return l
}

func (l looseServer) export(name string, kind int) {
	l.server.Export(name, kind)
	l.words.export(name, kind)
}

func (l looseServer) withdraw(name string) {
	l.server.Withdraw(name)
	l.words.withdraw(name)
}

func (l looseServer) crash() {
	l.server.Crash()
	l.words.serverCrash()
}

// ask tells the words which call that is.
func (l looseServer) ask(c callByWords, uid, proc int, arg []api.Item) {
	kind := api.Counter
	if uid <= len(l.words.kinds) {
		kind = l.words.kinds[uid-1]
	}
	l.words.asked[c] = askedByWords{uid, proc, arg, callMessage(kind, proc, arg)}
}

// packet is one of that call, with the Body that it has if it is a Call.
func (l looseServer) packet(c callByWords, kind, part, of int, please bool) api.Packet {
	asked := l.words.asked[c]
	p := api.Packet{Kind: kind, Client: c.client, Life: c.life, Line: c.line, Seq: c.seq, Uid: asked.uid, Part: part, Of: of, Please: please}
	if kind == api.Call {
		p.Body = pieces(asked.message)[part]
	}
	return p
}

func (l looseServer) take(p api.Packet) {
	l.t.Helper()
	if !isRightByWords(p) {
		l.t.Fatalf("the test is wrong: %s", told(p))
	}
	l.server.Take(p)
	l.words.serverTakes(p)
}

// takeCall hands over the first pieces of a call, with Please.
func (l looseServer) takeCall(c callByWords, count int) {
	l.t.Helper()
	of := len(pieces(l.words.asked[c].message))
	for part := range count {
		l.take(l.packet(c, api.Call, part, of, true))
	}
}

func (l looseServer) takeWhole(c callByWords) {
	l.t.Helper()
	l.takeCall(c, len(pieces(l.words.asked[c].message)))
}

func (l looseServer) serve() {
	l.t.Helper()
	if e, want := l.server.Serve(), l.words.serve(); e != want {
		l.t.Fatalf("P17: Serve() = %d, want %d", e, want)
	}
}

func (l looseServer) tick() {
	l.server.Tick()
	l.words.serverTick()
}

// look holds what the server has sent since the last look against the words.
func (l looseServer) look(behind string) {
	l.t.Helper()
	lookAtSent(l.t, behind, l.net, l.words)
	for uid := range len(l.words.kinds) + 2 {
		want, wantE := l.words.log(uid)
		if n, e := l.server.Log(uid); n != want || e != wantE {
			l.t.Fatalf("P18: behind %s: Log(%d) = %d, %d, want %d, %d", behind, uid, n, e, want, wantE)
		}
		last, lastE := l.words.entry(uid, want-1)
		if x, e := l.server.Entry(uid, want-1); !sameEntry(x, last) || e != lastE {
			l.t.Fatalf("P18: behind %s: Entry(%d, %d) = %+v, %d, want %+v, %d", behind, uid, want-1, x, e, last, lastE)
		}
	}
}

// lookAtSent looks at all that flies, and drops it.
func lookAtSent(t *testing.T, behind string, net *network.Network, words *worldByWords) {
	t.Helper()
	for i := range max(net.Flying(), len(words.flying)) {
		host, s, _ := net.Show(i)
		var want flightByWords
		if i < len(words.flying) {
			want = words.flying[i]
		}
		if host != want.host || s != want.bytes {
			t.Fatalf("behind %s: packet %d of %d to %d is %v, want one of %d to %d, %v", behind, i, net.Flying(), host, []byte(s), len(words.flying), want.host, []byte(want.bytes))
		}
	}
	for net.Flying() > 0 {
		net.Drop(0)
	}
	words.flying = nil
}

// lookOn looks at what becomes of the server with time: behind ticks, when it serves, and when it is asked again.
func (l looseServer) lookOn(behind string, calls ...callByWords) {
	l.t.Helper()
	l.look(behind)
	for range 2 {
		for range 2*l.words.config.Retry + 1 {
			l.tick()
			l.look("Tick behind " + behind)
		}
		for _, c := range calls {
			l.take(l.packet(c, api.Probe, 0, 1, true))
			l.look("a Probe behind " + behind)
		}
		l.serve()
		l.look("Serve behind " + behind)
	}
	for _, c := range calls {
		l.takeWhole(c)
		l.look("the whole call behind " + behind)
	}
	l.serve()
	l.look("the last Serve behind " + behind)
}

// The call that the cases are about is the second of its line, in the third life of its client; it is of the Board.
var looseCall = callByWords{client: 1, life: 3, line: 2, seq: 2}

type looseCase struct {
	name string
	make func(looseServer)
}

// posts lets the Board have so many strings of fourteen bytes.
func (l looseServer) posts(count int) {
	l.t.Helper()
	for i := range count {
		c := callByWords{client: 1, life: 2, line: 0, seq: i + 1}
		l.ask(c, 2, 0, items(fourteen))
		l.takeWhole(c)
		l.serve()
	}
}

// askToPost makes the call one of three pieces, askToShow one of a piece whose result has so many strings.
func (l looseServer) askToPost() { l.ask(looseCall, 2, 0, items("abcdefghijklm")) }

func (l looseServer) askToShow(count int) {
	l.t.Helper()
	l.posts(count)
	l.ask(looseCall, 2, 1, items(4))
}

// answeredAt lets the call be answered, by a result of five pieces, and be at that one.
func (l looseServer) answeredAt(at int) {
	l.t.Helper()
	l.askToShow(2)
	l.takeWhole(looseCall)
	l.serve()
	for part := range at {
		l.take(l.packet(looseCall, api.Got, part, 5, false))
	}
}

// fillQueue fills the queue with jobs that are void.
func (l looseServer) fillQueue() {
	l.t.Helper()
	for i := range l.words.config.Table {
		c := callByWords{client: 0, life: 1, line: 0, seq: i + 1}
		l.ask(c, 1, 0, items(1))
		l.takeWhole(c)
	}
	l.withdraw("sum")
}

func looseCases() []looseCase {
	return []looseCase{
		{"nothing", func(l looseServer) { l.askToPost() }},
		{"an earlier life", func(l looseServer) { l.posts(1); l.askToPost() }},
		{"gathering, 1 of 3", func(l looseServer) { l.askToPost(); l.takeCall(looseCall, 1) }},
		{"gathering, 2 of 3", func(l looseServer) { l.askToPost(); l.takeCall(looseCall, 2) }},
		{"gathering, the queue is full", func(l looseServer) { l.fillQueue(); l.askToPost(); l.takeCall(looseCall, 3) }},
		{"gathering, 0 of 1, the queue is full", func(l looseServer) { l.fillQueue(); l.askToShow(0); l.takeCall(looseCall, 1) }},
		{"waiting, 1 piece", func(l looseServer) { l.askToShow(1); l.takeWhole(looseCall) }},
		{"waiting, 3 pieces", func(l looseServer) { l.askToPost(); l.takeWhole(looseCall) }},
		{"answered, a result of 1 piece", func(l looseServer) { l.askToPost(); l.takeWhole(looseCall); l.serve() }},
		{"answered, at 0 of 5", func(l looseServer) { l.answeredAt(0) }},
		{"answered, at 1 of 5", func(l looseServer) { l.answeredAt(1) }},
		{"answered, at 3 of 5", func(l looseServer) { l.answeredAt(3) }},
		{"answered, at the last of 5", func(l looseServer) { l.answeredAt(4) }},
		{"answered, a tick ahead of sending", func(l looseServer) { l.answeredAt(2); l.tick() }},
		{"answered, sent again", func(l looseServer) { l.answeredAt(2); l.tick(); l.tick(); l.tick() }},
		{"answered, waits for nothing more", func(l looseServer) { l.answeredAt(2); l.tick(); l.tick(); l.tick(); l.tick() }},
		{"answered, the service ended", func(l looseServer) { l.answeredAt(1); l.withdraw("wall") }},
		{"void, it gathered", func(l looseServer) { l.askToPost(); l.takeCall(looseCall, 1); l.withdraw("wall") }},
		{"void, it waited", func(l looseServer) { l.askToPost(); l.takeWhole(looseCall); l.export("wall", api.Board) }},
		{"the service ended", func(l looseServer) { l.askToPost(); l.withdraw("wall") }},
		{"no service was made", func(l looseServer) { l.ask(looseCall, 200, 0, items(1)) }},
		{"the table is full", func(l looseServer) { l.fillTable(); l.askToPost() }},
		{"the table is full with it", func(l looseServer) { l.askToPost(); l.takeCall(looseCall, 1); l.fillTable() }},
		{"an earlier call that waits", func(l looseServer) { l.askToPost(); l.askBefore(); l.takeWhole(before(looseCall)) }},
		{"an earlier call, the table is full", func(l looseServer) { l.askToPost(); l.askBefore(); l.takeWhole(before(looseCall)); l.fillTable() }},
		{"an earlier call is void, the table is full", func(l looseServer) {
			l.askToPost()
			l.askBefore()
			l.takeWhole(before(looseCall))
			l.fillTable()
			l.withdraw("desk")
		}},
		{"a crash behind it", func(l looseServer) { l.askToPost(); l.takeCall(looseCall, 2); l.crash() }},
		{"a crash behind an earlier call", func(l looseServer) { l.crashBefore(); l.askToNew() }},
		{"gathering, 1 of 2, behind a crash", func(l looseServer) { l.crashBefore(); l.askToNew(); l.takeCall(looseCall, 1) }},
		{"waiting behind a crash", func(l looseServer) { l.crashBefore(); l.askToNew(); l.takeWhole(looseCall) }},
		{"answered behind a crash", func(l looseServer) { l.crashBefore(); l.askToNew(); l.takeWhole(looseCall); l.serve() }},
		{"a crash behind a greater life", func(l looseServer) { l.greaterLife(); l.crash(); l.askToNew() }},
		{"a crash, then a greater life", func(l looseServer) { l.crash(); l.greaterLife(); l.askToNew() }},
		{"a crash behind a full queue", func(l looseServer) { l.fillQueue(); l.crash(); l.askToNew() }},
		{"waiting behind a crash of a full queue", func(l looseServer) { l.fillQueue(); l.crash(); l.askToNew(); l.takeWhole(looseCall) }},
		{"a crash behind a full table", func(l looseServer) { l.fillTable(); l.crash(); l.askToNew() }},
		{"a crash of a result that was under way", func(l looseServer) { l.answeredAt(1); l.crash() }},
	}
}

func before(c callByWords) callByWords {
	c.seq--
	return c
}

// crashBefore lets the server crash when the call ahead of that one waits.
func (l looseServer) crashBefore() {
	l.t.Helper()
	l.askBefore()
	l.takeWhole(before(looseCall))
	l.crash()
}

// askToNew makes the call one of two pieces, of a service that is made for it.
func (l looseServer) askToNew() {
	l.export("wall", api.Board)
	l.ask(looseCall, len(l.words.kinds), 0, items("hello"))
}

// greaterLife lets a packet come of the life behind that of the call.
func (l looseServer) greaterLife() {
	l.t.Helper()
	c := looseCall
	c.life++
	l.ask(c, 1, 1, items(1))
	l.takeWhole(c)
}

// askBefore makes the call ahead of that one be of the Desk, with two pieces.
func (l looseServer) askBefore() { l.ask(before(looseCall), 3, 0, items(0, 3, 1, 2, 3)) }

// fillTable lets the server remember as many lines as it can; the last ones are refused.
func (l looseServer) fillTable() {
	l.t.Helper()
	for line := range 3 {
		c := callByWords{client: 2, life: 1, line: line, seq: 1}
		l.ask(c, 3, 0, items(line, 1, 5))
		l.takeWhole(c)
	}
}

// loosePackets are those of a call, in its life and beside it, with its seq and those beside it, of each kind and Part, with and without Please. All lives and seqs have one call's message: what is asked is told to the words.
func (l looseServer) loosePackets() []api.Packet {
	asked := l.words.asked[looseCall]
	var list []api.Packet
	for _, life := range []int{2, 3, 4} {
		for _, seq := range []int{1, 2, 3} {
			c := callByWords{looseCall.client, life, looseCall.line, seq}
			if _, isThere := l.words.asked[c]; !isThere {
				l.words.asked[c] = asked
			}
			of := len(pieces(l.words.asked[c].message))
			for _, please := range []bool{false, true} {
				for part := range of {
					list = append(list, l.packet(c, api.Call, part, of, please))
				}
				list = append(list, l.packet(c, api.Probe, 0, 1, please), l.packet(c, api.Probe, 1, 3, please))
			}
			for part := range 6 {
				for of := part + 1; of <= 6; of++ {
					list = append(list, l.packet(c, api.Got, part, of, false))
				}
			}
			for _, kind := range []int{api.Ack, api.Alive, api.Result, api.Reject} {
				list = append(list, l.packet(c, kind, 0, 1, false))
			}
		}
	}
	return list
}

// TestEachPacketAtEachLine hands each packet to a server whose line is in each state, and looks at what becomes of that.
func TestEachPacketAtEachLine(t *testing.T) {
	for _, c := range looseCases() {
		probe := newLooseServer(t, configLoose)
		c.make(probe)
		for i, p := range probe.loosePackets() {
			l := newLooseServer(t, configLoose)
			c.make(l)
			l.look(c.name)
			p = l.loosePackets()[i]
			behind := fmt.Sprintf("%s, %s", c.name, told(p))
			l.take(p)
			l.look(behind)
			l.lookOn(behind, looseCall)
		}
	}
}

// TestSomePacketsAtEachLine: what one packet leaves behind is seen by what the next one does.
func TestSomePacketsAtEachLine(t *testing.T) {
	r := rand.New(rand.NewSource(16))
	for _, c := range looseCases() {
		for range 300 {
			l := newLooseServer(t, configLoose)
			c.make(l)
			list := l.loosePackets()
			behind := c.name
			for range 3 {
				p := list[r.Intn(len(list))]
				behind += ", " + told(p)
				l.take(p)
				l.look(behind)
			}
			l.lookOn(behind, looseCall)
		}
	}
}

// drawLoose makes a packet near those that the server waits for.
func (l looseServer) drawLoose(r *rand.Rand) api.Packet {
	near := func(n int) int { return n + []int{0, 0, 0, 0, 0, 0, 0, -1, 1}[r.Intn(9)] }
	c := callByWords{client: r.Intn(3), line: r.Intn(3), seq: 1}
	c.life = max(1, l.words.server.greatest[c.client])
	if r.Intn(30) == 0 {
		c.life = max(1, near(c.life))
	}
	if l.words.server.greatest[c.client] == 0 {
		c.life = drawWithin(r, 1, 200)
	}
	known := l.words.server.table[[2]int{c.client, c.line}]
	if known != nil {
		c.seq = max(1, near(known.call.seq))
	}
	if _, isThere := l.words.asked[c]; !isThere {
		uid, kind := 255, api.Counter // no service comes to have that one
		if i := r.Intn(len(l.words.kinds) + 1); i < len(l.words.kinds) {
			uid, kind = i+1, l.words.kinds[i]
		}
		proc := r.Intn([]int{2, 2, 1}[kind])
		l.ask(c, uid, proc, drawRightArgument(r, kind, proc))
	}
	of, part := len(pieces(l.words.asked[c].message)), 0
	if known != nil {
		part = near(known.come)
	}
	switch r.Intn(6) {
	case 0:
		return l.packet(c, api.Probe, 0, 1, r.Intn(3) > 0)
	case 1, 2:
		if known != nil && known.state == "answered" {
			of := max(1, near(len(known.result)))
			return l.packet(c, api.Got, min(max(0, near(known.at)), of-1), of, false)
		}
	}
	return l.packet(c, api.Call, min(max(0, part), of-1), of, r.Intn(2) == 0)
}

func drawRightArgument(r *rand.Rand, kind, proc int) []api.Item {
	for {
		if arg := drawArgument(r, kind, proc); isArgumentByWords(kind, proc, arg) {
			return arg
		}
	}
}

// TestDrawnPacketsAtTheServer hands over many packets, of lives that go on, of calls that overtake one another, and of those ahead of a crash.
func TestDrawnPacketsAtTheServer(t *testing.T) {
	r := rand.New(rand.NewSource(15))
	for range 150 {
		c := drawConfig(r)
		c.Clients, c.Lines = 3, 3
		l := newLooseServer(t, c)
		for range 1500 {
			behind := ""
			switch r.Intn(40) {
			case 0:
				l.export([]string{"sum", "wall", "desk"}[r.Intn(3)], r.Intn(3))
				behind = "Export"
			case 1, 2, 3, 4, 5, 6:
				l.serve()
				behind = "Serve"
			case 7, 8, 9, 10:
				l.tick()
				behind = "Tick"
			case 11:
				if r.Intn(10) == 0 {
					l.crash()
					l.export("sum", r.Intn(3))
					behind = "Crash"
				}
			default:
				p := l.drawLoose(r)
				behind = told(p)
				l.take(p)
			}
			l.look(behind)
		}
		l.lookAtLogs()
	}
}

func (l looseServer) lookAtLogs() {
	l.t.Helper()
	for i := range l.words.kinds {
		for k, want := range l.words.server.services[i].log {
			if x, e := l.server.Entry(i+1, k); !sameEntry(x, want) || e != api.OK {
				l.t.Fatalf("P18: Entry(%d, %d) = %+v, %d, want %+v", i+1, k, x, e, want)
			}
		}
	}
}

// TestALifeForgetsItsClientsLinesAlone: a greater life of one client is nothing to the lines of the others, nor to the queue's order.
func TestALifeForgetsItsClientsLinesAlone(t *testing.T) {
	l := newLooseServer(t, api.Config{Clients: 3, Lines: 3, Retry: 2, Tries: 1, Table: 9})
	var all []callByWords
	for client := range 3 {
		for line := range 3 {
			c := callByWords{client, 1, line, 1}
			l.ask(c, 1, 0, items(1+10*client+line))
			l.takeWhole(c)
			all = append(all, c)
		}
	}
	again := callByWords{1, 2, 1, 1}
	l.ask(again, 1, 0, items(1000))
	l.take(l.packet(again, api.Got, 0, 1, false))
	l.takeWhole(all[4])
	l.look("a packet of an earlier life")
	// The queue is full of the jobs of the earlier life.
	l.takeWhole(again)
	l.look("a call for whose job there is no room")
	for range 4 {
		l.serve()
	}
	l.takeWhole(again)
	l.look("a call of the next life")
	for range 4 {
		l.serve()
	}
	l.look("Serve")
	want := []int{0, 0, 0, 2, 2, 2, 1}
	var got []int
	for k := range want {
		x, _ := l.server.Entry(1, k)
		got = append(got, x.Client)
	}
	if n, _ := l.server.Log(1); n != 7 || !slices.Equal(got, want) {
		t.Errorf("P15: %d calls were done, by clients %v, want %v", n, got, want)
	}
}

// TestAnEarlierLifesJobIsPassedOver: even if a call with the same seq on that line waits behind it.
func TestAnEarlierLifesJobIsPassedOver(t *testing.T) {
	l := newLooseServer(t, api.Config{Clients: 2, Lines: 1, Retry: 2, Tries: 1, Table: 3})
	one, other, two := callByWords{0, 1, 0, 1}, callByWords{1, 1, 0, 1}, callByWords{0, 2, 0, 1}
	for i, c := range []callByWords{one, other, two} {
		l.ask(c, 1, 0, items(1+i))
		l.takeWhole(c)
	}
	for range 3 {
		l.serve()
	}
	l.look("Serve")
	first, _ := l.server.Entry(1, 0)
	second, _ := l.server.Entry(1, 1)
	if n, _ := l.server.Log(1); n != 2 || first.Client != 1 || second.Life != 2 || !same(second.Arg, items(3)) {
		t.Errorf("P17: %d calls were done: %+v, %+v", n, first, second)
	}
}
