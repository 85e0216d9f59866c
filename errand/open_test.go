package errand_test

import (
	"math/rand"
	"strings"
	"testing"

	"errand/api"
	"errand/errand"
)

func testOpenRefuses(t *testing.T, s string) {
	t.Helper()
	if p, e := errand.Open(s); p != (api.Packet{}) || e != api.ErrPacket {
		t.Errorf("P8: Open(%v) = %s, %d, want %d", []byte(s[:min(len(s), 100)]), told(p), e, api.ErrPacket)
	}
}

// packetByWords reads bytes whose Sixteen and length are right; what it answers need not be right.
func packetByWords(s string) api.Packet {
	return api.Packet{Kind: int(s[0]), Client: int(s[1]), Life: int(s[2]), Line: int(s[3]), Seq: int(s[4])*256 + int(s[5]), Uid: int(s[6]), Part: int(s[7]), Of: int(s[8]), Please: s[9] == 1, Body: s[11 : len(s)-2]}
}

// testOpen holds Open of a packet's bytes ahead of Sixteen, with the right Sixteen behind them, against the document's words.
func testOpen(t *testing.T, ahead string) {
	t.Helper()
	s := withSixteen(ahead)
	p := packetByWords(s)
	if !isRightByWords(p) || packetBytes(p) != s {
		testOpenRefuses(t, s)
	} else if got, e := errand.Open(s); got != p || e != api.OK {
		t.Errorf("P8: Open(%v) = %s, %d, want %s", []byte(s), told(got), e, told(p))
	}
}

func samplePackets() []api.Packet {
	return []api.Packet{
		{Kind: api.Call, Life: 1, Seq: 1, Uid: 1, Of: 1, Body: "\x00\x00\x00\x05"},
		{Kind: api.Call, Client: 2, Life: 255, Line: 2, Seq: 999, Uid: 255, Part: 8, Of: 9, Please: true, Body: "12345678"},
		{Kind: api.Call, Client: 1, Life: 2, Line: 1, Seq: 256, Uid: 7, Part: 0, Of: 2, Please: true, Body: "\x00\x00\x00\x00\x00\x00\x00\x00"},
		{Kind: api.Ack, Life: 1, Seq: 1, Uid: 2, Of: 2},
		{Kind: api.Probe, Life: 1, Seq: 1, Uid: 1, Of: 1, Please: true},
		{Kind: api.Alive, Life: 9, Line: 1, Seq: 255, Uid: 128, Of: 1},
		{Kind: api.Result, Life: 1, Seq: 1, Uid: 1, Part: 1, Of: 2},
		{Kind: api.Got, Life: 1, Seq: 512, Uid: 1, Part: 3, Of: 9},
		{Kind: api.Reject, Client: 2, Life: 255, Line: 1, Seq: 999, Uid: 255, Part: 1, Of: 2},
	}
}

func TestOpenTellsEveryByteTurned(t *testing.T) {
	for _, p := range samplePackets() {
		s := packetBytes(p)
		for at := range len(s) {
			for by := 1; by < 256; by++ {
				b := []byte(s)
				b[at] ^= byte(by)
				testOpenRefuses(t, string(b))
			}
		}
	}
}

// TestOpenTellsWrongFields turns one byte or two and makes Sixteen right again, so that the fields alone tell.
func TestOpenTellsWrongFields(t *testing.T) {
	for _, p := range samplePackets() {
		s := packetBytes(p)
		ahead := s[:len(s)-2]
		for at := range len(ahead) {
			for n := range 256 {
				b := []byte(ahead)
				b[at] = byte(n)
				testOpen(t, string(b))
			}
		}
		for part := range 12 {
			for of := range 12 {
				testOpen(t, ahead[:7]+string([]byte{byte(part), byte(of)})+ahead[9:])
			}
		}
	}
}

func TestOpenOfAllSeqs(t *testing.T) {
	s := packetBytes(samplePackets()[0])
	for n := range 65536 {
		testOpen(t, s[:4]+twoBytes(n)+s[6:len(s)-2])
	}
}

func TestOpenTellsWrongLengths(t *testing.T) {
	for _, p := range samplePackets() {
		s := packetBytes(p)
		ahead := s[:len(s)-2]
		for n := range len(s) {
			testOpenRefuses(t, s[:n])
			testOpenRefuses(t, s[n+1:])
			testOpenRefuses(t, s[:n]+s[n+1:])
		}
		for n := range len(ahead) {
			testOpenRefuses(t, withSixteen(s[:n]))
		}
		for n := range 256 {
			testOpenRefuses(t, s+string([]byte{byte(n)}))
			testOpenRefuses(t, string([]byte{byte(n)})+s)
			testOpen(t, ahead+string([]byte{byte(n)}))
		}
		testOpenRefuses(t, s+s)
		testOpenRefuses(t, withSixteen(s))
		testOpenRefuses(t, s+strings.Repeat("\x00", 1<<20))
	}
	testOpenRefuses(t, "")
	for length := range 300 {
		testOpenRefuses(t, strings.Repeat("\x00", length))
		testOpenRefuses(t, strings.Repeat("\x01", length))
		testOpenRefuses(t, strings.Repeat("\xff", length))
	}
}

// TestOpenHoldsBodyToItsLength tells the length rightly and makes Sixteen right, at all lengths that a byte can tell.
func TestOpenHoldsBodyToItsLength(t *testing.T) {
	for kind := range 9 {
		for _, piece := range [][2]byte{{0, 1}, {0, 2}, {1, 2}, {7, 9}, {8, 9}, {9, 9}, {1, 1}, {0, 0}, {9, 10}} {
			for length := range 256 {
				head := string([]byte{byte(kind), 0, 1, 0, 0, 1, 1, piece[0], piece[1], 0, byte(length)})
				testOpen(t, head+strings.Repeat("\xa5", length))
			}
		}
	}
}

func TestOpenTellsAWrongSixteen(t *testing.T) {
	s := packetBytes(samplePackets()[0])
	ahead := s[:len(s)-2]
	for n := range 65536 {
		if sum := twoBytes(n); sum != s[len(s)-2:] {
			testOpenRefuses(t, ahead+sum)
		}
	}
}

// TestOpenOfAnyBytes: what is taken must be what Seal makes of it.
func TestOpenOfAnyBytes(t *testing.T) {
	r := rand.New(rand.NewSource(9))
	taken := 0
	for range 200000 {
		s := drawBytes(r, 30)
		if r.Intn(2) == 0 {
			s = withSixteen(s)
		}
		if r.Intn(2) == 0 {
			s = drawBent(r)
		}
		p, e := errand.Open(s)
		if e == api.ErrPacket && p == (api.Packet{}) {
			continue
		}
		taken++
		if back, again := errand.Seal(p); e != api.OK || again != api.OK || back != s {
			t.Errorf("P8: Open(%v) = %s, %d, whose bytes are %v, %d", []byte(s), told(p), e, []byte(back), again)
		}
	}
	if taken < 1000 {
		t.Errorf("only %d were taken: the test is too thin", taken)
	}
}

// drawBent makes a right packet's bytes, turns some of them, and makes Sixteen right again.
func drawBent(r *rand.Rand) string {
	s := packetBytes(drawPacket(r))
	b := []byte(s[:len(s)-2])
	for range r.Intn(3) {
		b[r.Intn(len(b))] ^= byte(1 << r.Intn(8))
	}
	return withSixteen(string(b))
}
