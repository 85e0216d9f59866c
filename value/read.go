package value

import (
	"strings"

	"errand/api"
	"errand/fault"
	"errand/shape"
	"errand/wire"
)

// Read answers the value that has these bytes; it gives up with a Fault if they are too many, or no value of the type has them.
func Read(t shape.Type, s string) []api.Item {
	if isTooBig(len(s)) {
		panic(fault.Fault{Errno: api.ErrBig})
	}
	r := reader{Reader: wire.Reader{Left: s, Wrong: api.ErrBytes}}
	carry(t, &r)
	r.End()
	return r.items
}

// reader carries bytes to items.
type reader struct {
	wire.Reader
	items []api.Item
}

func (r *reader) number(low, high int) int {
	n := r.TwoBytes()
	if low < 0 && n > high {
		n -= 65536
	}
	if n < low || n > high {
		r.Refuse()
	}
	r.items = append(r.items, api.Item{N: n})
	return n
}

func (r *reader) text() {
	length := r.TwoBytes()
	if length > api.MaxString {
		r.Refuse()
	}
	// A copy: an item must not hold on to the bytes that were handed in.
	s := strings.Clone(r.Take(length))
	if isOdd(length) && r.Byte() != 0 {
		r.Refuse()
	}
	r.items = append(r.items, api.Item{S: s})
}
