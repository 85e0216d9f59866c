// Package value: values of a type, between lists of items and bytes.
package value

import (
	"errand/api"
	"errand/shape"
)

// carrier takes a value's next item from one side to the other. One walk over the type serves writing and reading, so the two can't come to differ.
type carrier interface {
	// number carries a number from low to high, and tells it.
	number(low, high int) int
	// text carries a string.
	text()
}

func carry(t shape.Type, c carrier) {
	switch t.Letter {
	case 'b':
		c.number(0, 1)
	case 'c':
		c.number(0, 65535)
	case 'i':
		c.number(-32768, 32767)
	case 'e':
		c.number(0, t.Digit-1)
	case 's':
		c.text()
	case 'a':
		carryTimes(t.Digit, t.Parts[0], c)
	case 'q':
		count := c.number(0, t.Digit)
		carryTimes(count, t.Parts[0], c)
	case 'r':
		for _, p := range t.Parts {
			carry(p, c)
		}
	case 'u':
		choice := c.number(0, len(t.Parts)-1)
		carry(t.Parts[choice], c)
	}
}

func carryTimes(times int, t shape.Type, c carrier) {
	for range times {
		carry(t, c)
	}
}

func isOdd(n int) bool { return n%2 == 1 }

func isTooBig(size int) bool { return size > api.MaxMessage }
