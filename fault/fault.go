// Package fault: what a part that finds something wrong gives up with, by panic, and how the face tells it.
package fault

import "errand/api"

// Fault is the value of such a panic.
type Fault struct {
	Errno api.Errno
	At    int // the place of what is wrong, where the error has one
}

// Caught tells what a recovered panic gave up with. Any other panic is a mistake in the program and goes on: answering an error for it would hide it.
func Caught(recovered any) Fault {
	f, ok := recovered.(Fault)
	if !ok {
		panic(recovered)
	}
	return f
}
