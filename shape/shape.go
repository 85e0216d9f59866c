// Package shape: types, as they are read from their texts.
package shape

import (
	"errand/api"
	"errand/fault"
)

// Type is a type, taken apart.
type Type struct {
	Letter byte   // its first byte: b, c, i, s, e, a, q, r or u
	Digit  int    // the digit of e, a and q
	Parts  []Type // the types in it: one of a and q, one to MaxParts of r and u
}

// Read takes a text apart; it gives up with a Fault if that is no type, or one that may not be.
func Read(text string) Type {
	if len(text) > api.MaxType {
		panic(fault.Fault{Errno: api.ErrLong})
	}
	r := reader{text: text}
	t := r.oneType()
	if r.at < len(text) {
		panic(r.wrongHere())
	}
	if depth(t) > api.MaxDepth {
		panic(fault.Fault{Errno: api.ErrDeep})
	}
	return t
}

func depth(t Type) int {
	greatest := 0
	for _, p := range t.Parts {
		greatest = max(greatest, depth(p))
	}
	return greatest + 1
}

// reader goes through a text; what stands ahead of at is always the beginning of a type, so the first byte that does not fit is the place to tell.
type reader struct {
	text string
	at   int
}

func (r *reader) wrongHere() fault.Fault {
	return fault.Fault{Errno: api.ErrType, At: r.at}
}

// next is the byte at hand. It is 0 behind the last one: that fits nowhere, as the byte 0 itself does not.
func (r *reader) next() byte {
	if r.at == len(r.text) {
		return 0
	}
	return r.text[r.at]
}

func (r *reader) oneType() Type {
	t := Type{Letter: r.letter()}
	switch t.Letter {
	case 'e':
		t.Digit = r.digit(1)
	case 'a':
		t.Digit = r.digit(1)
		t.Parts = []Type{r.oneType()}
	case 'q':
		t.Digit = r.digit(0)
		t.Parts = []Type{r.oneType()}
	case 'r', 'u':
		t.Parts = r.partsInBrackets()
	}
	return t
}

func (r *reader) letter() byte {
	b := r.next()
	switch b {
	case 'b', 'c', 'i', 's', 'e', 'a', 'q', 'r', 'u':
		r.at++
		return b
	}
	panic(r.wrongHere())
}

func (r *reader) digit(least int) int {
	d := int(r.next()) - '0'
	if d < least || d > 9 {
		panic(r.wrongHere())
	}
	r.at++
	return d
}

func (r *reader) bracket(b byte) {
	if r.next() != b {
		panic(r.wrongHere())
	}
	r.at++
}

func (r *reader) partsInBrackets() []Type {
	r.bracket('(')
	parts := []Type{r.oneType()}
	for len(parts) < api.MaxParts && r.next() != ')' {
		parts = append(parts, r.oneType())
	}
	r.bracket(')')
	return parts
}
