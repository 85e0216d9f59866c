package value

import (
	"errand/api"
	"errand/fault"
	"errand/shape"
	"errand/wire"
)

// Write answers the bytes of a value; it gives up with a Fault if the items are no value of the type, or its bytes too many.
func Write(t shape.Type, items []api.Item) string {
	w := writer{left: items}
	carry(t, &w)
	if len(w.left) > 0 {
		panic(noValue())
	}
	if isTooBig(len(w.out)) {
		panic(fault.Fault{Errno: api.ErrBig})
	}
	return string(w.out)
}

func noValue() fault.Fault { return fault.Fault{Errno: api.ErrValue} }

// writer carries items to bytes.
type writer struct {
	left []api.Item
	out  []byte
}

func (w *writer) item() api.Item {
	if len(w.left) == 0 {
		panic(noValue())
	}
	x := w.left[0]
	w.left = w.left[1:]
	return x
}

func (w *writer) number(low, high int) int {
	x := w.item()
	if x.S != "" || x.N < low || x.N > high {
		panic(noValue())
	}
	w.out = wire.AppendTwo(w.out, x.N)
	return x.N
}

func (w *writer) text() {
	x := w.item()
	if x.N != 0 || len(x.S) > api.MaxString {
		panic(noValue())
	}
	w.out = wire.AppendTwo(w.out, len(x.S))
	w.out = append(w.out, x.S...)
	if isOdd(len(x.S)) {
		w.out = append(w.out, 0)
	}
}
