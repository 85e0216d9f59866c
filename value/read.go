package value

import (
	"strings"

	"errand/api"
	"errand/fault"
	"errand/shape"
)

// Read answers the value that has these bytes; it gives up with a Fault if they are too many, or no value of the type has them.
func Read(t shape.Type, s string) []api.Item {
	if isTooBig(len(s)) {
		panic(fault.Fault{Errno: api.ErrBig})
	}
	r := reader{left: s}
	carry(t, &r)
	if len(r.left) > 0 {
		panic(noBytes())
	}
	return r.items
}

func noBytes() fault.Fault { return fault.Fault{Errno: api.ErrBytes} }

// reader carries bytes to items.
type reader struct {
	left  string
	items []api.Item
}

func (r *reader) take(count int) string {
	if len(r.left) < count {
		panic(noBytes())
	}
	taken := r.left[:count]
	r.left = r.left[count:]
	return taken
}

func (r *reader) twoBytes() int {
	s := r.take(2)
	return int(s[0])<<8 | int(s[1])
}

func (r *reader) number(low, high int) int {
	n := r.twoBytes()
	if low < 0 && n > high {
		n -= 65536
	}
	if n < low || n > high {
		panic(noBytes())
	}
	r.items = append(r.items, api.Item{N: n})
	return n
}

func (r *reader) text() {
	length := r.twoBytes()
	if length > api.MaxString {
		panic(noBytes())
	}
	// A copy: an item must not hold on to the bytes that were handed in.
	s := strings.Clone(r.take(length))
	if isOdd(length) && r.take(1) != "\x00" {
		panic(noBytes())
	}
	r.items = append(r.items, api.Item{S: s})
}
