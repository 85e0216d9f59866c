package errand_test

import (
	"math"
	"math/rand"
	"slices"
	"strings"
	"testing"

	"errand/api"
	"errand/errand"
)

// testAnything makes the calls with anything, and looks at what P1 says of all of them.
func testAnything(t *testing.T, text string, value []api.Item, bytes string) {
	t.Helper()
	checked, at := errand.Check(text)
	if at != 0 && checked != api.ErrType || at < 0 || at > len(text) {
		t.Errorf("P1: Check(%.60q) = %d, %d", text, checked, at)
	}
	s, e := errand.Marshal(text, value)
	if e != api.OK && s != "" || checked != api.OK && e != checked {
		t.Errorf("P1: Marshal(%.60q, %.200v) = %q, %d; Check says %d", text, value, s, e, checked)
	}
	v, e := errand.Unmarshal(text, bytes)
	if e != api.OK && len(v) != 0 || checked != api.OK && e != checked {
		t.Errorf("P1: Unmarshal(%.60q, %.200q) = %v, %d; Check says %d", text, bytes, v, e, checked)
	}
}

// testAnyPacket makes the calls of packets with anything.
func testAnyPacket(t *testing.T, p api.Packet, bytes string) {
	t.Helper()
	if s, e := errand.Seal(p); (s == "") != (e == api.ErrPacket) || e != api.OK && e != api.ErrPacket {
		t.Errorf("P1: Seal(%s) = %q, %d", told(p), s, e)
	}
	if p, e := errand.Open(bytes); (p == api.Packet{}) != (e == api.ErrPacket) || e != api.OK && e != api.ErrPacket {
		t.Errorf("P1: Open(%.200q) = %s, %d", bytes, told(p), e)
	}
}

func drawAnyPacket(r *rand.Rand) api.Packet {
	p := drawPacket(r)
	for _, f := range freeFields() {
		if r.Intn(10) == 0 {
			*f.field(&p) = drawAnyNumber(r)
		}
	}
	if r.Intn(10) == 0 {
		p.Part = drawAnyNumber(r)
	}
	if r.Intn(10) == 0 {
		p.Body = drawBytes(r, 400)
	}
	return p
}

func drawAnyNumber(r *rand.Rand) int {
	numbers := []int{0, 1, 2, -1, 9, 255, 256, 65535, 65536, math.MinInt, math.MaxInt}
	if r.Intn(2) == 0 {
		return r.Int() - r.Int()
	}
	return numbers[r.Intn(len(numbers))]
}

func drawBytes(r *rand.Rand, most int) string {
	b := make([]byte, r.Intn(most+1))
	for i := range b {
		b[i] = byte(r.Intn(256))
		if r.Intn(2) == 0 {
			b[i] = byte(r.Intn(4))
		}
	}
	return string(b)
}

func drawLetters(r *rand.Rand, most int) string {
	const letters = "bcisaaeeqqrruu(((()))0123456789"
	b := make([]byte, r.Intn(most+1))
	for i := range b {
		b[i] = letters[r.Intn(len(letters))]
	}
	return string(b)
}

func drawItems(r *rand.Rand, most int) []api.Item {
	numbers := []int{0, 1, 2, -1, 9, 65535, 65536, -32768, -32769, 32767, math.MinInt, math.MaxInt}
	list := make([]api.Item, r.Intn(most+1))
	for i := range list {
		if r.Intn(3) > 0 {
			list[i].N = numbers[r.Intn(len(numbers))]
		}
		if r.Intn(3) == 0 {
			list[i].S = drawBytes(r, 20)
		}
	}
	return list
}

func TestNoCallPanics(t *testing.T) {
	r := rand.New(rand.NewSource(1))
	for range 30000 {
		value, bytes := drawItems(r, 12), drawBytes(r, 80)
		testAnything(t, drawBytes(r, 50), value, bytes)
		testAnything(t, drawLetters(r, 45), value, bytes)
		text := drawRight(r).text
		testAnything(t, text, value, bytes)
		if len(bytes) <= api.MaxMessage {
			testReadsBack(t, text, bytes)
		}
		errand.Signature(r.Int()-r.Int(), r.Int()-r.Int())
		errand.Signature(r.Intn(5)-1, r.Intn(5)-1)
		testAnyPacket(t, drawAnyPacket(r), bytes)
	}
}

func TestLongThingsEnd(t *testing.T) {
	long := strings.Repeat("q1", 5000000)
	list := make([]api.Item, 1000000)
	list[0].S = long
	for _, text := range []string{long, strings.Repeat("r(", 5000000), "b", "s", "q9q9q9q9", "q9q9q9s", "a9a9a9s"} {
		testAnything(t, text, list, long)
		testAnything(t, text, list[1:], "")
		testAnything(t, text, nil, strings.Repeat("\x00", 70))
	}
	testAnyPacket(t, api.Packet{Kind: api.Call, Life: 1, Seq: 1, Uid: 1, Of: 1, Body: long}, long)
	testAnyPacket(t, api.Packet{}, packetBytes(samplePackets()[0])+long)
}

func TestMarshalLeavesWhatIsHandedIn(t *testing.T) {
	room := items(1, 2, 5, -1, 77, "behind", 78)
	before := slices.Clone(room)
	for _, text := range []string{"u(bq3i)", "q9s", "a4c", "a9a9b", "", "i"} {
		errand.Marshal(text, room[:4])
		if !same(room, before) {
			t.Fatalf("P2: Marshal(%q, ..) changed the list or what stands behind it: %v", text, room)
		}
	}
}

func TestMarshalKeepsNothing(t *testing.T) {
	list := items(1, 2, 5, -1)
	first, _ := errand.Marshal("u(bq3i)", list)
	for i := range list {
		list[i] = api.Item{N: 9, S: "x"}
	}
	second, e := errand.Marshal("u(bq3i)", items(1, 2, 5, -1))
	if want := "\x00\x01\x00\x02\x00\x05\xff\xff"; first != want || second != want || e != api.OK {
		t.Errorf("P2: Marshal = %q, then %q, %d", first, second, e)
	}
}

func TestUnmarshalAnswersNewMemory(t *testing.T) {
	const text, bytes = "r(q3isa2b)", "\x00\x02\x00\x05\xff\xff\x00\x01a\x00\x00\x01\x00\x00"
	want := items(2, 5, -1, "a", 1, 0)
	answers := make([][]api.Item, 5)
	for i := range answers {
		answers[i], _ = errand.Unmarshal(text, bytes)
	}
	for i, a := range answers {
		if !same(a, want) {
			t.Fatalf("P2: answer %d is %v once an earlier one was written into", i, a)
		}
		for k := range cap(a) {
			a[:cap(a)][k] = api.Item{N: 99, S: "written"}
		}
	}
	if a, e := errand.Unmarshal(text, bytes); !same(a, want) || e != api.OK {
		t.Errorf("P2: Unmarshal = %v, %d once earlier answers were written into", a, e)
	}
}

// TestAnswersHangOnArgumentsAlone makes each call twice, with others in between that fail at every depth.
func TestAnswersHangOnArgumentsAlone(t *testing.T) {
	r := rand.New(rand.NewSource(2))
	for range 2000 {
		s := drawRight(r)
		list, bytes := s.draw(r)
		written, writtenE := errand.Marshal(s.text, list)
		read, readE := errand.Unmarshal(s.text, bytes)
		testAnything(t, drawLetters(r, 45), drawItems(r, 12), drawBytes(r, 80))
		testAnything(t, drawRight(r).text, drawItems(r, 12), drawBytes(r, 80))
		if again, e := errand.Marshal(s.text, list); again != written || e != writtenE {
			t.Errorf("P2: Marshal(%q, %v) = %q, %d, then %q, %d", s.text, list, written, writtenE, again, e)
		}
		if again, e := errand.Unmarshal(s.text, bytes); !same(again, read) || e != readE {
			t.Errorf("P2: Unmarshal(%q, %q) = %v, %d, then %v, %d", s.text, bytes, read, readE, again, e)
		}
	}
}

func TestPacketsHangOnArgumentsAlone(t *testing.T) {
	r := rand.New(rand.NewSource(6))
	for range 2000 {
		p, bytes := drawAnyPacket(r), drawBent(r)
		sealed, sealedE := errand.Seal(p)
		opened, openedE := errand.Open(bytes)
		testAnyPacket(t, drawAnyPacket(r), drawBytes(r, 30))
		if again, e := errand.Seal(p); again != sealed || e != sealedE {
			t.Errorf("P2: Seal(%s) = %q, %d, then %q, %d", told(p), sealed, sealedE, again, e)
		}
		if again, e := errand.Open(bytes); again != opened || e != openedE {
			t.Errorf("P2: Open(%q) = %s, %d, then %s, %d", bytes, told(opened), openedE, told(again), e)
		}
	}
}
