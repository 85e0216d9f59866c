// Package packet: packets, between api.Packet and bytes.
package packet

import (
	"strings"

	"errand/api"
	"errand/fault"
	"errand/wire"
)

// Write answers the bytes of a packet; it gives up with a Fault if that is not right.
func Write(p api.Packet) string {
	mustBeRight(p)
	b := []byte{byte(p.Kind), byte(p.Client), byte(p.Life), byte(p.Line)}
	b = wire.AppendTwo(b, p.Seq)
	b = append(b, byte(p.Uid), byte(p.Part), byte(p.Of), zeroOrOne(p.Please), byte(len(p.Body)))
	b = append(b, p.Body...)
	return string(wire.AppendTwo(b, sixteen(string(b))))
}

// Read answers the packet that has these bytes; it gives up with a Fault if none has.
func Read(s string) api.Packet {
	r := reader{wire.Reader{Left: s, Wrong: api.ErrPacket}}
	p := r.fields()
	mustBeRight(p)
	r.sum(s)
	r.End()
	return p
}

type reader struct {
	wire.Reader
}

func (r *reader) fields() api.Packet {
	// Go makes the calls of a literal in the order in which they stand: that of the bytes.
	return api.Packet{
		Kind:   r.Byte(),
		Client: r.Byte(),
		Life:   r.Byte(),
		Line:   r.Byte(),
		Seq:    r.TwoBytes(),
		Uid:    r.Byte(),
		Part:   r.Byte(),
		Of:     r.Byte(),
		Please: r.flag(),
		Body:   r.body(),
	}
}

func (r *reader) flag() bool {
	b := r.Byte()
	if b > 1 {
		r.Refuse()
	}
	return b == 1
}

func (r *reader) body() string {
	length := r.Byte()
	// A copy: a packet must not hold on to the bytes that were handed in.
	return strings.Clone(r.Take(length))
}

// sum reads Sixteen, and holds it against the bytes of s that were read ahead of it.
func (r *reader) sum(s string) {
	ahead := s[:len(s)-len(r.Left)]
	if r.TwoBytes() != sixteen(ahead) {
		r.Refuse()
	}
}

func mustBeRight(p api.Packet) {
	mustBeWithin(p.Kind, api.Call, api.Reject)
	mustBeWithin(p.Client, 0, api.MaxClients-1)
	mustBeWithin(p.Life, 1, api.MaxLife)
	mustBeWithin(p.Line, 0, api.MaxLines-1)
	mustBeWithin(p.Seq, 1, api.MaxSeq)
	mustBeWithin(p.Uid, 1, api.MaxUid)
	mustBeWithin(p.Of, 1, api.MaxPieces)
	mustBeWithin(p.Part, 0, p.Of-1)
	least, most := bodyBounds(p)
	mustBeWithin(len(p.Body), least, most)
}

func mustBeWithin(n, low, high int) {
	if n < low || n > high {
		panic(fault.Fault{Errno: api.ErrPacket})
	}
}

// bodyBounds tells how long Body may be.
func bodyBounds(p api.Packet) (least, most int) {
	if p.Kind != api.Call && p.Kind != api.Result {
		return 0, 0
	}
	if p.Part < p.Of-1 {
		return api.Piece, api.Piece
	}
	return 0, api.Piece
}

func zeroOrOne(b bool) byte {
	if b {
		return 1
	}
	return 0
}
