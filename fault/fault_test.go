package fault

import (
	"testing"

	"errand/api"
)

func TestCaughtTellsAFault(t *testing.T) {
	want := Fault{Errno: api.ErrType, At: 7}
	defer func() {
		if f := Caught(recover()); f != want {
			t.Errorf("Caught = %v, want %v", f, want)
		}
	}()
	panic(want)
}

func TestCaughtHidesNoMistake(t *testing.T) {
	defer func() {
		if r := recover(); r != "a mistake" {
			t.Errorf("the panic went on with %v", r)
		}
	}()
	Caught("a mistake")
}
