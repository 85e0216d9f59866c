package errand_test

import (
	"fmt"
	"math/rand"
	"testing"

	"errand/api"
	"errand/caller"
	"errand/network"
)

// looseClient is client 1 without a server, beside what the document says of it: it is handed those packets too that no server would send at that time.
type looseClient struct {
	t      *testing.T
	net    *network.Network
	client *caller.Client
	words  *worldByWords
}

// newLooseClient is such a client, bound to a service of each kind, the uid of each is 1 more than its kind.
func newLooseClient(t *testing.T, c api.Config) looseClient {
	t.Helper()
	words, e := newByWords(c)
	if e != api.OK {
		t.Fatalf("New(%+v) = %d", c, e)
	}
	words.server.results = map[callByWords][]api.Item{}
	net := &network.Network{}
	l := looseClient{t, net, caller.New(1, c, net), words}
	for kind, name := range []string{"sum", "wall", "desk"} {
		words.export(name, kind)
	}
	l.bindAll()
	return l
}

func (l looseClient) bindAll() {
	for kind, name := range []string{"sum", "wall", "desk"} {
		l.words.bind(1, name)
		l.client.Bind(kind+1, kind)
	}
}

func (l looseClient) crash() {
	l.t.Helper()
	if e, want := l.client.Crash(), l.words.crash(1); e != want {
		l.t.Fatalf("P19: Crash() = %d, want %d", e, want)
	}
}

// call makes a call, and tells the words which result it is to have.
func (l looseClient) call(line, uid, proc int, arg, result []api.Item) {
	l.t.Helper()
	seq, e := l.client.Call(line, uid, proc, arg)
	if want, wantE := l.words.call(1, line, uid, proc, arg); seq != want || e != wantE {
		l.t.Fatalf("P11: Call = %d, %d, want %d, %d", seq, e, want, wantE)
	}
	l.words.server.results[l.words.callOn(1, line)] = result
}

func (l looseClient) take(p api.Packet) {
	l.t.Helper()
	if !isRightByWords(p) {
		l.t.Fatalf("the test is wrong: %s", told(p))
	}
	l.client.Take(p)
	l.words.clientTakes(1, p)
}

func (l looseClient) tick() {
	l.client.Tick()
	for line := range l.words.config.Lines {
		if l.words.lines[1][line].state == api.Waiting {
			l.words.tickOf(1, line)
		}
	}
}

func (l looseClient) look(behind string) {
	l.t.Helper()
	lookAtSent(l.t, behind, l.net, l.words)
	for line := range l.words.config.Lines {
		want, _ := l.words.status(1, line)
		if s, e := l.client.Status(line); s.State != want.State || s.Seq != want.Seq || !same(s.Result, want.Result) || e != api.OK {
			l.t.Fatalf("P14: behind %s: Status(%d) = %+v, %d, want %+v", behind, line, s, e, want)
		}
	}
}

// lookOn looks at what becomes of the client with time.
func (l looseClient) lookOn(behind string) {
	l.t.Helper()
	l.look(behind)
	for range l.words.config.Retry*(l.words.config.Tries+1) + 1 {
		l.tick()
		l.look("Tick behind " + behind)
	}
}

// packet is one of the last call of a line, with the Body that it has if it is a Result.
func (l looseClient) packet(line, kind, part, of int) api.Packet {
	c := l.words.callOn(1, line)
	asked := l.words.asked[c]
	p := api.Packet{Kind: kind, Client: 1, Life: c.life, Line: c.line, Seq: max(1, c.seq), Uid: max(1, asked.uid), Part: part, Of: of}
	if kind == api.Result && asked.uid > 0 {
		p.Body = pieces(resultMessage(l.words.kinds[asked.uid-1], asked.proc, l.words.server.results[c]))[part]
	}
	return p
}

// resultPieces tells how many pieces the result of a line's last call has, 1 if there is none.
func (l looseClient) resultPieces(line int) int {
	c := l.words.callOn(1, line)
	asked := l.words.asked[c]
	if asked.uid == 0 {
		return 1
	}
	return len(pieces(resultMessage(l.words.kinds[asked.uid-1], asked.proc, l.words.server.results[c])))
}

func (l looseClient) acks(count int) {
	l.t.Helper()
	for part := range count {
		l.take(l.packet(2, api.Ack, part, 9))
	}
}

func (l looseClient) results(count int) {
	l.t.Helper()
	of := l.resultPieces(2)
	for part := range count {
		l.take(l.packet(2, api.Result, part, of))
	}
}

// post makes a call of three pieces, whose result has one; show one of one piece, whose result has five; exchange one of two pieces, whose result has two.
func (l looseClient) post() {
	l.t.Helper()
	l.call(2, 2, 0, items("abcdefghijklm"), items(3))
}

func (l looseClient) show() {
	l.t.Helper()
	l.call(2, 2, 1, items(9), items(2, fourteen, fourteen))
}

func (l looseClient) exchange() {
	l.t.Helper()
	l.call(2, 3, 0, items(0, 2, 1, -2), items(1, 3, -1, 7, 32767))
}

type looseClientCase struct {
	name string
	make func(looseClient)
}

func looseClientCases() []looseClientCase {
	return []looseClientCase{
		{"no call", func(l looseClient) {}},
		{"acked 0 of 3", func(l looseClient) { l.post() }},
		{"acked 1 of 3", func(l looseClient) { l.post(); l.acks(1) }},
		{"acked 2 of 3", func(l looseClient) { l.post(); l.acks(2) }},
		{"acked 3 of 3", func(l looseClient) { l.post(); l.acks(3) }},
		{"acked 1 of 3, a tick ahead of sending", func(l looseClient) { l.post(); l.acks(1); l.tick() }},
		{"acked 1 of 3, a tick ahead of the end", func(l looseClient) { l.post(); l.acks(1); l.tick(); l.tick(); l.tick() }},
		{"acked 0 of 1", func(l looseClient) { l.show() }},
		{"acked 1 of 1", func(l looseClient) { l.show(); l.acks(1) }},
		{"acked 1 of 1, a tick ahead of the end", func(l looseClient) { l.show(); l.acks(1); l.tick(); l.tick(); l.tick() }},
		{"has 1 of 5, no Ack came", func(l looseClient) { l.show(); l.results(1) }},
		{"has 1 of 5", func(l looseClient) { l.show(); l.acks(1); l.results(1) }},
		{"has 4 of 5", func(l looseClient) { l.show(); l.results(4) }},
		{"has 2 of 5, a tick ahead of sending", func(l looseClient) { l.show(); l.results(2); l.tick() }},
		{"has 2 of 5, a tick ahead of the end", func(l looseClient) { l.show(); l.results(2); l.tick(); l.tick(); l.tick() }},
		{"acked 0 of 2", func(l looseClient) { l.exchange() }},
		{"acked 1 of 2, has 1 of 2", func(l looseClient) { l.exchange(); l.acks(1); l.results(1) }},
		{"done", func(l looseClient) { l.show(); l.results(5) }},
		{"unbound", func(l looseClient) { l.show(); l.take(l.packet(2, api.Reject, 0, 2)) }},
		{"refused", func(l looseClient) { l.show(); l.take(l.packet(2, api.Reject, 1, 2)) }},
		{"timeout", func(l looseClient) {
			l.post()
			l.acks(1)
			l.tick()
			l.tick()
			l.tick()
			l.tick()
		}},
		{"another call behind one that is done", func(l looseClient) { l.show(); l.results(5); l.exchange() }},
		{"crashed, acked 1 of 3", func(l looseClient) { l.post(); l.acks(1); l.crash() }},
		{"crashed, has 2 of 5", func(l looseClient) { l.show(); l.results(2); l.crash() }},
		{"crashed, done", func(l looseClient) { l.show(); l.results(5); l.crash() }},
		{"crashed, another call, acked 0 of 3", func(l looseClient) { l.show(); l.results(2); l.crash(); l.bindAll(); l.post() }},
		{"crashed, another call, acked 2 of 3", func(l looseClient) {
			l.post()
			l.acks(3)
			l.crash()
			l.bindAll()
			l.post()
			l.acks(2)
		}},
		{"crashed, another call, has 1 of 5", func(l looseClient) {
			l.show()
			l.results(4)
			l.crash()
			l.bindAll()
			l.show()
			l.results(1)
		}},
		{"crashed, another call, done", func(l looseClient) { l.exchange(); l.crash(); l.bindAll(); l.show(); l.results(5) }},
		{"another call behind one that was refused", func(l looseClient) { l.exchange(); l.acks(1); l.take(l.packet(2, api.Reject, 1, 2)); l.show() }},
	}
}

// loosePackets are those of the line's last call, in its life and beside it, with its seq and those beside it, on its line and beside it, of each kind and Part.
func (l looseClient) loosePackets() []api.Packet {
	var list []api.Packet
	for part := range 4 {
		list = append(list, l.packet(2, api.Ack, part, 4), l.packet(2, api.Alive, part, 4), l.packet(2, api.Reject, part, 4), l.packet(2, api.Probe, part, 4), l.packet(2, api.Got, part, 4))
	}
	of := l.resultPieces(2)
	for part := range of {
		list = append(list, l.packet(2, api.Result, part, of))
	}
	for _, p := range list {
		for _, life := range []int{1, 2} {
			for _, seq := range []int{p.Seq - 1, p.Seq, p.Seq + 1} {
				for _, line := range []int{1, 2} {
					beside := p
					beside.Life, beside.Seq, beside.Line = life, max(1, seq), line
					list = append(list, beside)
				}
			}
		}
	}
	return append(list, l.packet(2, api.Call, 0, 1))
}

// TestEachPacketAtEachCall hands each packet to a client whose call is in each state, alone and behind others.
func TestEachPacketAtEachCall(t *testing.T) {
	r := rand.New(rand.NewSource(14))
	c := api.Config{Clients: 2, Lines: 3, Retry: 2, Tries: 1, Table: 1}
	for _, state := range looseClientCases() {
		begin := func() (looseClient, []api.Packet) {
			l := newLooseClient(t, c)
			state.make(l)
			l.look(state.name)
			return l, l.loosePackets()
		}
		_, list := begin()
		for _, p := range list {
			l, _ := begin()
			behind := fmt.Sprintf("%s, %s", state.name, told(p))
			l.take(p)
			l.lookOn(behind)
		}
		for range 300 {
			l, _ := begin()
			behind := state.name
			for range 4 {
				p := list[r.Intn(len(list))]
				behind += ", " + told(p)
				l.take(p)
				l.look(behind)
			}
			l.lookOn(behind)
		}
	}
}

// TestResultsOfEachLength: a result of any number of pieces comes whole, whatever comes twice of it.
func TestResultsOfEachLength(t *testing.T) {
	for count := range 5 {
		for length := range 15 {
			l := newLooseClient(t, configW)
			result := items(count)
			for range count {
				result = append(result, api.Item{S: fourteen[14-length:]})
			}
			l.call(1, 2, 1, items(4), result)
			of := l.resultPieces(1)
			for part := range of {
				if s, _ := l.client.Status(1); s.State != api.Waiting {
					t.Fatalf("P14: with %d of %d pieces the State is %d", part, of, s.State)
				}
				l.take(l.packet(1, api.Result, of-1, of))
				if part < of-1 {
					l.take(l.packet(1, api.Result, part, of))
					l.take(l.packet(1, api.Result, part, of))
				}
				l.look("a piece")
			}
			if s, _ := l.client.Status(1); s.State != api.Done || !same(s.Result, result) {
				t.Errorf("P14: Status = %+v, want %v", s, result)
			}
		}
	}
}
