package errand_test

import (
	"fmt"
	"math/rand"

	"errand/api"
)

// fieldBounds is a number of a packet, with what it may be.
type fieldBounds struct {
	name      string
	field     func(*api.Packet) *int
	low, high int
}

// freeFields are the numbers of a packet that hang on no other field; the bounds are written out from the document.
func freeFields() []fieldBounds {
	return []fieldBounds{
		{"Kind", func(p *api.Packet) *int { return &p.Kind }, 1, 7},
		{"Client", func(p *api.Packet) *int { return &p.Client }, 0, 2},
		{"Life", func(p *api.Packet) *int { return &p.Life }, 1, 255},
		{"Line", func(p *api.Packet) *int { return &p.Line }, 0, 2},
		{"Seq", func(p *api.Packet) *int { return &p.Seq }, 1, 999},
		{"Uid", func(p *api.Packet) *int { return &p.Uid }, 1, 255},
		{"Of", func(p *api.Packet) *int { return &p.Of }, 1, 9},
	}
}

// isRightByWords is what the document says of a right packet.
func isRightByWords(p api.Packet) bool {
	for _, f := range freeFields() {
		if n := *f.field(&p); n < f.low || n > f.high {
			return false
		}
	}
	switch {
	case p.Part < 0 || p.Part >= p.Of:
		return false
	case p.Kind != 1 && p.Kind != 5:
		return p.Body == ""
	case p.Part < p.Of-1:
		return len(p.Body) == 8
	}
	return len(p.Body) <= 8
}

// sixteenByWords writes the bits down and turns them, as the document says.
func sixteenByWords(s string) int {
	var bits []int
	for i := range len(s) {
		for k := 7; k >= 0; k-- {
			bits = append(bits, int(s[i])>>k&1)
		}
	}
	ahead := len(bits)
	bits = append(bits, make([]int, 16)...)
	for first := range ahead {
		if bits[first] == 0 {
			continue
		}
		for k, b := range "11000000000000101" {
			if b == '1' {
				bits[first+k] = 1 - bits[first+k]
			}
		}
	}
	sum := 0
	for _, b := range bits[ahead:] {
		sum = sum*2 + b
	}
	return sum
}

func withSixteen(s string) string { return s + twoBytes(sixteenByWords(s)) }

// packetBytes is what P7 says of the bytes of a packet, its fields cut to the room that they have.
func packetBytes(p api.Packet) string {
	please := byte(0)
	if p.Please {
		please = 1
	}
	head := []byte{byte(p.Kind), byte(p.Client), byte(p.Life), byte(p.Line), byte(p.Seq / 256), byte(p.Seq % 256), byte(p.Uid), byte(p.Part), byte(p.Of), please, byte(len(p.Body))}
	return withSixteen(string(head) + p.Body)
}

func drawBody(r *rand.Rand, length int) string {
	b := make([]byte, length)
	for i := range b {
		b[i] = byte(r.Intn(256))
	}
	return string(b)
}

// drawPacket makes a right packet, at its bounds more often than not.
func drawPacket(r *rand.Rand) api.Packet {
	var p api.Packet
	for _, f := range freeFields() {
		*f.field(&p) = drawWithin(r, f.low, f.high)
	}
	p.Part = drawWithin(r, 0, p.Of-1)
	p.Please = r.Intn(2) == 0
	if p.Kind != api.Call && p.Kind != api.Result {
		return p
	}
	p.Body = drawBody(r, api.Piece)
	if p.Part == p.Of-1 {
		p.Body = drawBody(r, r.Intn(api.Piece+1))
	}
	return p
}

func drawWithin(r *rand.Rand, low, high int) int {
	switch r.Intn(4) {
	case 0:
		return low
	case 1:
		return high
	}
	return low + r.Intn(high-low+1)
}

// told is a packet as a failed test tells it: any bytes may stand in Body, and any number of them.
func told(p api.Packet) string {
	length := len(p.Body)
	p.Body = p.Body[:min(length, 100)]
	return fmt.Sprintf("%#v (Body of %d bytes)", p, length)
}
