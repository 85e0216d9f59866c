package errand_test

import (
	"strings"
	"testing"

	"errand/api"
)

// TestWaitsOfEachConfig looks at a call behind each Tick until it ends, and beyond.
func TestWaitsOfEachConfig(t *testing.T) {
	for retry := 1; retry <= 8; retry++ {
		for tries := 1; tries <= 6; tries++ {
			b := newAll(t, api.Config{Clients: 1, Lines: 1, Retry: retry, Tries: tries, Table: 1})
			for range 2 {
				b.call(0, 0, 1, 0, items(5))
				for ticks := 1; ticks <= retry*(tries+1)+10; ticks++ {
					b.tick()
					b.look("Tick")
					state, flying := api.Waiting, 1+ticks/retry
					if ticks >= retry*(tries+1) {
						state, flying = api.Timeout, 1+tries
					}
					if s, _ := b.world.Status(0, 0); s.State != state || b.world.Flying() != flying {
						t.Fatalf("P12: Retry %d, Tries %d, behind %d ticks: State %d, %d packets, want %d, %d", retry, tries, ticks, s.State, b.world.Flying(), state, flying)
					}
				}
				b.endCalls()
			}
		}
	}
}

func TestTicksOfTheExample(t *testing.T) {
	b := newW(t)
	b.call(0, 0, 1, 0, items(5))
	for range 3 {
		b.tick()
	}
	_, first, _ := b.world.Show(0)
	_, second, _ := b.world.Show(1)
	if b.world.Flying() != 2 || len(second) != 17 || first[:9]+"\x01"+first[10:15] != second[:15] {
		t.Errorf("P12: behind three Ticks %d packets fly, %v and %v", b.world.Flying(), []byte(first), []byte(second))
	}
	for range 6 {
		b.tick()
	}
	if s, _ := b.world.Status(0, 0); s.State != api.Timeout || s.Seq != 1 || b.world.Flying() != 3 {
		t.Errorf("P12: behind nine Ticks %d packets fly, Status is %+v", b.world.Flying(), s)
	}
	b.look("nine Ticks")
}

// TestFirstPieces: of messages of one piece, and of several: those of strings have from 4 to 18 bytes.
func TestFirstPieces(t *testing.T) {
	for length := range api.MaxString + 1 {
		text := "abcdefghijklmn"[:length]
		b := newAll(t, configW)
		b.call(1, 1, 2, 0, items(text))
		bytes := 4 + length + length%2
		want := api.Packet{Kind: api.Call, Client: 1, Life: 1, Line: 1, Seq: 1, Uid: 2, Of: 1, Body: "\x00\x00\x00" + string([]byte{byte(length)}) + text + strings.Repeat("\x00", length%2)}
		if bytes > 8 {
			want.Of, want.Please, want.Body = 2, true, want.Body[:8]
		}
		if bytes > 16 {
			want.Of = 3
		}
		if _, s, _ := b.world.Show(0); s != packetBytes(want) {
			t.Errorf("P12: the first packet of %q: %v, want %v", text, []byte(s), []byte(packetBytes(want)))
		}
		for range 3 {
			b.tick()
		}
		want.Please = true
		if _, s, _ := b.world.Show(1); s != packetBytes(want) || b.world.Flying() != 2 {
			t.Errorf("P12: the first packet of %q, sent again: %v, want %v", text, []byte(s), []byte(packetBytes(want)))
		}
		b.look("three Ticks")
	}
}

func TestMessagesOfDesks(t *testing.T) {
	for count := range 4 {
		b := newAll(t, configW)
		arg := append(items(2, count), items(-1, 32767, -32768)[:count]...)
		b.call(0, 1, 3, 0, arg)
		want := api.Packet{Kind: api.Call, Life: 1, Line: 1, Seq: 1, Uid: 3, Of: 1, Body: "\x00\x00\x00\x02\x00" + string([]byte{byte(count)}) + "\xff\xff\x7f\xff\x80\x00"[:2*count]}
		if len(want.Body) > 8 {
			want.Of, want.Please, want.Body = 2, true, want.Body[:8]
		}
		if _, s, _ := b.world.Show(0); s != packetBytes(want) || b.world.Flying() != 1 {
			t.Errorf("P12: the first packet of %v: %v, want %v", arg, []byte(s), []byte(packetBytes(want)))
		}
	}
}

// TestTicksGoInOrder: of clients, and of one client's lines; whenever the calls were made.
func TestTicksGoInOrder(t *testing.T) {
	b := newAll(t, api.Config{Clients: 3, Lines: 3, Retry: 2, Tries: 2, Table: 1})
	for client := 2; client >= 0; client-- {
		for line := 2; line >= 0; line-- {
			b.call(client, line, 1, 0, items(client*3+line))
		}
	}
	b.tick()
	b.tick()
	b.look("two Ticks")
	for i := range 9 {
		_, s, e := b.world.Show(9 + i)
		if p := packetByWords(s); p.Client != i/3 || p.Line != i%3 || !p.Please || e != api.OK {
			t.Errorf("P12: packet %d behind two Ticks is of client %d, line %d", 9+i, p.Client, p.Line)
		}
	}
}

// TestWaitsBeginWithTheirCalls: calls that were made at several times are sent again at several times.
func TestWaitsBeginWithTheirCalls(t *testing.T) {
	b := newAll(t, api.Config{Clients: 2, Lines: 3, Retry: 4, Tries: 3, Table: 1})
	for line := range 3 {
		for client := range 2 {
			b.call(client, line, 1, 0, items(5))
			b.tick()
			b.look("Tick")
		}
	}
	for range 30 {
		b.tick()
		b.look("Tick")
	}
}

// TestLostPacketsCount: a packet for which there is no room was sent all the same: the tries go down, the next one has Please.
func TestLostPacketsCount(t *testing.T) {
	b := newW(t)
	b.call(0, 0, 1, 0, items(5))
	for len(b.words.flying) < 40 {
		b.copy(0)
	}
	b.call(0, 1, 1, 0, items(7))
	b.look("a call whose packet is lost")
	b.drop(0)
	b.drop(0)
	b.drop(0)
	for range 3 {
		b.tick()
		b.look("Tick")
	}
	_, s, e := b.world.Show(38)
	if p := packetByWords(s); p.Line != 1 || !p.Please || e != api.OK || b.world.Flying() != 39 {
		t.Errorf("P12: behind a lost packet %d fly, the last one is %s", b.world.Flying(), told(p))
	}
	for range 7 {
		b.tick()
		b.look("Tick")
	}
	if n := b.world.Flying(); n != 40 {
		t.Errorf("P12: %d packets fly, want 40", n)
	}
}

// TestNothingFliesWithoutRoom: calls end at the same tick, whether their packets fly or not.
func TestNothingFliesWithoutRoom(t *testing.T) {
	b := newW(t)
	b.call(0, 0, 1, 0, items(5))
	for len(b.words.flying) < 40 {
		b.copy(0)
	}
	b.call(0, 1, 1, 0, items(7))
	for ticks := 1; ticks <= 10; ticks++ {
		b.tick()
		b.look("Tick")
		s, _ := b.world.Status(0, 1)
		if isOver := ticks >= 9; (s.State == api.Timeout) != isOver || b.world.Flying() != 40 {
			t.Errorf("P12: behind %d ticks: %+v, %d packets", ticks, s, b.world.Flying())
		}
	}
}
