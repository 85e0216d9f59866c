// Package message: bytes that are sent in pieces.
package message

import "errand/api"

// Message is such bytes; there is always at least one.
type Message string

// Pieces tells how many pieces it has.
func (m Message) Pieces() int {
	return (len(m) + api.Piece - 1) / api.Piece
}

// Piece is the piece with that number, from 0 on.
func (m Message) Piece(number int) string {
	first := number * api.Piece
	return string(m[first:min(first+api.Piece, len(m))])
}
