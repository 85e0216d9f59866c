// Package service: the kinds of services, their procedures, and what those do.
package service

import "errand/api"

// Service is one service, with its state.
type Service interface {
	// Do does a call: of a procedure that there is, with a value of its argument's type; it answers one of its result's.
	Do(proc int, arg []api.Item) []api.Item
}

// New begins a service of a kind that there is.
func New(kind int) Service {
	switch kind {
	case api.Counter:
		return &counter{}
	case api.Board:
		return &board{}
	}
	return &desk{}
}

// IsKind tells whether there is such a kind.
func IsKind(kind int) bool {
	switch kind {
	case api.Counter, api.Board, api.Desk:
		return true
	}
	return false
}
