package errand_test

import (
	"math"
	"math/rand"
	"strings"
	"testing"

	"errand/api"
	"errand/errand"
)

// testSeal holds Seal, and Open of what it answers, against the document's words.
func testSeal(t *testing.T, p api.Packet) {
	t.Helper()
	want, wantE := "", api.ErrPacket
	if isRightByWords(p) {
		want, wantE = packetBytes(p), api.OK
	}
	s, e := errand.Seal(p)
	if s != want || e != wantE {
		t.Errorf("P7: Seal(%s) = %v, %d, want %v, %d", told(p), []byte(s), e, []byte(want), wantE)
	}
	if e != api.OK {
		return
	}
	if back, e := errand.Open(s); back != p || e != api.OK {
		t.Errorf("P8: Open(%v) = %s, %d, want %s", []byte(s), told(back), e, told(p))
	}
}

func TestSealWritesBytes(t *testing.T) {
	for _, c := range []struct {
		p api.Packet
		s []byte
	}{
		{api.Packet{Kind: api.Call, Life: 1, Seq: 1, Uid: 1, Of: 1, Body: "\x00\x00\x00\x05"}, []byte{1, 0, 1, 0, 0, 1, 1, 0, 1, 0, 4, 0, 0, 0, 5, 152, 31}},
		{api.Packet{Kind: api.Result, Life: 1, Seq: 1, Uid: 1, Of: 1, Body: "\x00\x05"}, []byte{5, 0, 1, 0, 0, 1, 1, 0, 1, 0, 2, 0, 5, 5, 157}},
	} {
		if s, e := errand.Seal(c.p); s != string(c.s) || e != api.OK {
			t.Errorf("P7: Seal(%s) = %v, %d, want %v", told(c.p), []byte(s), e, c.s)
		}
		testSeal(t, c.p)
	}
	every := api.Packet{Kind: api.Call, Client: 2, Life: 3, Line: 1, Seq: 4*256 - 25, Uid: 6, Part: 7, Of: 8, Please: true, Body: "body\x00\xff\x80"}
	if s, e := errand.Seal(every); !strings.HasPrefix(s, "\x01\x02\x03\x01\x03\xe7\x06\x07\x08\x01\x07body\x00\xff\x80") || len(s) != 20 || e != api.OK {
		t.Errorf("P7: Seal(%s) = %v, %d", told(every), []byte(s), e)
	}
	testSeal(t, every)
}

// beyond are numbers that no field may be, and such as are right ones once they are cut to one byte, two or four.
func beyond(f fieldBounds) []int {
	return []int{f.low - 1, f.high + 1, f.low + 256, f.low - 256, f.high + 65536, f.low - 65536, f.low + 1<<32, math.MinInt, math.MaxInt, math.MinInt + f.low}
}

func TestSealHoldsEachNumberToItsBounds(t *testing.T) {
	r := rand.New(rand.NewSource(7))
	for range 300 {
		for _, f := range freeFields() {
			p := drawPacket(r)
			for _, n := range append(beyond(f), f.low, f.high) {
				*f.field(&p) = n
				testSeal(t, p)
			}
		}
	}
	// Alone, so that nothing but the number itself can be what is refused.
	for _, f := range freeFields() {
		for n := f.low - 1; n <= f.high+1; n++ {
			p := api.Packet{Kind: api.Ack, Life: 1, Seq: 1, Uid: 1, Of: 1}
			*f.field(&p) = n
			want := api.OK
			if n < f.low || n > f.high {
				want = api.ErrPacket
			}
			if s, e := errand.Seal(p); e != want || (s == "") != (e != api.OK) {
				t.Errorf("P7: %s %d: Seal = %v, %d, want %d", f.name, n, []byte(s), e, want)
			}
		}
	}
}

func TestSealHoldsPartBelowOf(t *testing.T) {
	for of := -1; of <= api.MaxPieces+1; of++ {
		for part := -2; part <= api.MaxPieces+1; part++ {
			testSeal(t, api.Packet{Kind: api.Got, Life: 1, Seq: 1, Uid: 1, Part: part, Of: of})
		}
		for _, part := range []int{of + 256, of - 1 - 256, 1 << 32, math.MinInt, math.MaxInt} {
			testSeal(t, api.Packet{Kind: api.Got, Life: 1, Seq: 1, Uid: 1, Part: part, Of: of})
		}
	}
	testSeal(t, api.Packet{Kind: api.Got, Life: 1, Seq: 1, Uid: 1, Part: math.MaxInt, Of: math.MinInt})
	testSeal(t, api.Packet{Kind: api.Got, Life: 1, Seq: 1, Uid: 1, Part: -1, Of: math.MinInt})
}

func TestSealHoldsBodyToItsLength(t *testing.T) {
	for kind := 0; kind <= 8; kind++ {
		for of := 1; of <= api.MaxPieces; of++ {
			for part := range of {
				for length := range 20 {
					testSeal(t, api.Packet{Kind: kind, Life: 1, Seq: 1, Uid: 1, Part: part, Of: of, Please: length%2 == 0, Body: strings.Repeat("x", length)})
				}
				for _, length := range []int{255, 256, 256 + 8, 65536, 65536 + 8} {
					testSeal(t, api.Packet{Kind: kind, Life: 1, Seq: 1, Uid: 1, Part: part, Of: of, Body: strings.Repeat("x", length)})
				}
			}
		}
	}
}

// TestSealTakesPleaseOfEachKind: the document holds Please to no kind where it says what a right packet is.
func TestSealTakesPleaseOfEachKind(t *testing.T) {
	for kind := api.Call; kind <= api.Reject; kind++ {
		for _, please := range []bool{false, true} {
			p := api.Packet{Kind: kind, Life: 1, Seq: 1, Uid: 1, Of: 1, Please: please}
			if s, e := errand.Seal(p); len(s) != 13 || e != api.OK {
				t.Errorf("P7: Seal(%s) = %v, %d", told(p), []byte(s), e)
			}
			testSeal(t, p)
		}
	}
}

func TestSealOfDrawnPackets(t *testing.T) {
	r := rand.New(rand.NewSource(8))
	for range 20000 {
		p := drawPacket(r)
		if !isRightByWords(p) {
			t.Fatalf("drawn a packet that is not right: %s", told(p))
		}
		testSeal(t, p)
	}
}
