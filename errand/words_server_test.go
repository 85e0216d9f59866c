package errand_test

import (
	"slices"

	"errand/api"
)

// serverByWords is what the document says of the server in P15 to P19.
type serverByWords struct {
	services []serviceByWords
	greatest [3]int
	table    map[[2]int]*rememberedByWords // by client and line
	queue    []callByWords
	results  map[callByWords][]api.Item // of the calls that were done
}

type serviceByWords struct {
	number  int
	posts   []string
	drawers [3][]api.Item
	log     []api.Entry
}

type rememberedByWords struct {
	call            callByWords
	state           string // gathering, waiting, answered, void
	come            int
	result          []string // its pieces
	at, wait, tries int
	waitsForGot     bool
}

func (w *worldByWords) isAlive(uid int) bool {
	return uid >= 1 && uid <= len(w.kinds) && !w.ended[uid-1]
}

func (w *worldByWords) end(uid int) {
	w.ended[uid-1] = true
	for _, r := range w.server.table {
		if w.asked[r.call].uid == uid && r.state != "answered" {
			r.state = "void"
		}
	}
}

// serverCrash lets the server forget all but the services' logs.
func (w *worldByWords) serverCrash() {
	for i := range w.ended {
		w.ended[i] = true
	}
	w.server.greatest = [3]int{}
	w.server.table = map[[2]int]*rememberedByWords{}
	w.server.queue = nil
}

// serverTakes is what P15 and P16 say of a packet that comes to the server.
func (w *worldByWords) serverTakes(p api.Packet) {
	s := &w.server
	if p.Life < s.greatest[p.Client] {
		return
	}
	if p.Life > s.greatest[p.Client] {
		s.greatest[p.Client] = p.Life
		for line := range 3 {
			delete(s.table, [2]int{p.Client, line})
		}
	}
	r := s.table[[2]int{p.Client, p.Line}]
	c := callByWords{p.Client, p.Life, p.Line, p.Seq}
	switch {
	case p.Kind == 6:
		if r != nil && r.call.seq == p.Seq && r.state == "answered" && p.Of == len(r.result) && p.Part == r.at && r.at != len(r.result)-1 {
			r.at++
			w.sendAtAndRest(r)
		}
	case p.Kind != 1 && p.Kind != 3:
	case r != nil && r.call.seq == p.Seq:
		w.serverTakesKnown(r, p)
	case r != nil && r.call.seq > p.Seq:
	case !w.isAlive(p.Uid):
		w.send(c.client, c, api.Packet{Kind: 7, Part: 0, Of: 2})
	case p.Kind == 3 || p.Part != 0:
	case r == nil && len(s.table) >= w.config.Table:
		w.send(c.client, c, api.Packet{Kind: 7, Part: 1, Of: 2})
	default:
		r = &rememberedByWords{call: c, state: "gathering"}
		s.table[[2]int{p.Client, p.Line}] = r
		w.serverTakesKnown(r, p)
	}
}

func (w *worldByWords) serverTakesKnown(r *rememberedByWords, p api.Packet) {
	c := r.call
	ack := api.Packet{Kind: 2, Part: p.Part, Of: p.Of}
	switch r.state {
	case "void":
		w.send(c.client, c, api.Packet{Kind: 7, Part: 0, Of: 2})
	case "answered":
		if p.Please {
			w.sendAtAndRest(r)
		}
	case "waiting":
		if p.Please && p.Kind == 3 {
			w.send(c.client, c, api.Packet{Kind: 4, Part: 0, Of: 1})
		}
		if p.Please && p.Kind == 1 {
			w.send(c.client, c, ack)
		}
	case "gathering":
		isLast := p.Part+1 == p.Of
		if p.Kind == 3 || p.Part > r.come || p.Part == r.come && isLast && len(w.server.queue) >= w.config.Table {
			return
		}
		if p.Part == r.come {
			r.come++
			if isLast {
				r.state = "waiting"
				w.server.queue = append(w.server.queue, c)
			}
		}
		if p.Please {
			w.send(c.client, c, ack)
		}
	}
}

func (w *worldByWords) sendAt(r *rememberedByWords) {
	w.send(r.call.client, r.call, api.Packet{Kind: 5, Part: r.at, Of: len(r.result), Body: r.result[r.at]})
}

func (w *worldByWords) sendAtAndRest(r *rememberedByWords) {
	w.sendAt(r)
	r.waitsForGot = r.at < len(r.result)-1
	r.wait, r.tries = w.config.Retry, w.config.Tries
}

func (w *worldByWords) serve() api.Errno {
	s := &w.server
	for len(s.queue) > 0 {
		c := s.queue[0]
		s.queue = s.queue[1:]
		r := s.table[[2]int{c.client, c.line}]
		if r == nil || r.call != c || r.state != "waiting" {
			continue
		}
		asked := w.asked[c]
		result := w.does(asked)
		if s.results == nil {
			s.results = map[callByWords][]api.Item{}
		}
		s.results[c] = result
		log := &s.services[asked.uid-1].log
		*log = append(*log, api.Entry{Client: c.client, Life: c.life, Line: c.line, Seq: c.seq, Proc: asked.proc, Arg: asked.arg, Result: result})
		r.state = "answered"
		r.result = pieces(resultMessage(w.kinds[asked.uid-1], asked.proc, result))
		w.sendAtAndRest(r)
		return 0
	}
	return 19
}

// does is what the section 'Words' says of the kinds of services.
func (w *worldByWords) does(c askedByWords) []api.Item {
	s := &w.server.services[c.uid-1]
	switch [2]int{w.kinds[c.uid-1], c.proc} {
	case [2]int{0, 0}:
		s.number = (s.number + c.arg[0].N + 65536) % 65536
		return items(s.number)
	case [2]int{0, 1}:
		result := items(s.number)
		if c.arg[0].N == 1 {
			s.number = 0
		}
		return result
	case [2]int{1, 0}:
		s.posts = append(slices.Clone(s.posts), c.arg[0].S)
		if len(s.posts) > 4 {
			s.posts = s.posts[1:]
		}
		return items(len(s.posts))
	case [2]int{1, 1}:
		result := items(min(len(s.posts), c.arg[0].N))
		for i := range result[0].N {
			result = append(result, api.Item{S: s.posts[i]})
		}
		return result
	}
	lay := s.drawers[c.arg[0].N]
	s.drawers[c.arg[0].N] = slices.Clone(c.arg[1:])
	if len(lay) <= 1 {
		return items(0, 0)
	}
	return append(items(1), lay...)
}

func (w *worldByWords) serverTick() {
	for client := range 3 {
		for line := range 3 {
			r := w.server.table[[2]int{client, line}]
			if r == nil || !r.waitsForGot {
				continue
			}
			r.wait--
			if r.wait > 0 {
				continue
			}
			if r.tries == 0 {
				r.waitsForGot = false
				continue
			}
			r.tries--
			r.wait = w.config.Retry
			w.sendAt(r)
		}
	}
}

func (w *worldByWords) log(uid int) (int, api.Errno) {
	if uid < 1 || uid > len(w.kinds) {
		return 0, 9
	}
	return len(w.server.services[uid-1].log), 0
}

func (w *worldByWords) entry(uid, k int) (api.Entry, api.Errno) {
	count, e := w.log(uid)
	if e != 0 || k < 0 || k >= count {
		return api.Entry{}, 9
	}
	return w.server.services[uid-1].log[k], 0
}
