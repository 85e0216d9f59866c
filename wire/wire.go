// Package wire: what the bytes of values and of packets have in common.
package wire

import (
	"errand/api"
	"errand/fault"
)

// AppendTwo leans on uint16's wrap-round: it makes a number below 0 that number plus 65536.
func AppendTwo(out []byte, n int) []byte {
	u := uint16(n)
	return append(out, byte(u>>8), byte(u))
}

// Reader takes bytes from the first on; it gives up with a Fault where they are too few or too many.
type Reader struct {
	Left  string
	Wrong api.Errno // what it gives up with
}

// Refuse gives up.
func (r *Reader) Refuse() {
	panic(fault.Fault{Errno: r.Wrong})
}

// Take takes the next bytes.
func (r *Reader) Take(count int) string {
	if len(r.Left) < count {
		r.Refuse()
	}
	taken := r.Left[:count]
	r.Left = r.Left[count:]
	return taken
}

// Byte takes a number in one byte.
func (r *Reader) Byte() int {
	return int(r.Take(1)[0])
}

// TwoBytes takes a number in two bytes, as one from 0 on.
func (r *Reader) TwoBytes() int {
	high := r.Byte()
	return high<<8 | r.Byte()
}

// End gives up unless all bytes are taken.
func (r *Reader) End() {
	if len(r.Left) > 0 {
		r.Refuse()
	}
}
