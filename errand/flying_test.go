package errand_test

import (
	"math"
	"testing"

	"errand/api"
)

// newFlying is the world W with that many packets that fly, each other than those beside it.
func newFlying(t *testing.T, count int) bothWorlds {
	t.Helper()
	b := newAll(t, configW)
	for n := range count {
		b.call(n/2%2, n%2, 1, 0, items(n))
		if n%4 == 3 {
			// All lines are busy: their calls end, and what was sent again for that goes.
			for range 9 {
				b.tick()
			}
			for len(b.words.flying) > n+1 {
				b.drop(n + 1)
			}
		}
	}
	b.look("calls")
	return b
}

func noPlaces(count int) []int {
	return []int{-1, count, count + 1, -count, count + 256, 1 << 32, math.MinInt, math.MaxInt}
}

func TestNoPacket(t *testing.T) {
	for _, count := range []int{0, 1, 2, 40} {
		b := newFlying(t, count)
		for _, i := range noPlaces(count) {
			if b.words.isFlying(i) {
				continue
			}
			if host, s, e := b.world.Show(i); host != 0 || s != "" || e != api.ErrArg {
				t.Errorf("P13: Show(%d) of %d = %d, %q, %d", i, count, host, s, e)
			}
			if e := b.world.Drop(i); e != api.ErrArg {
				t.Errorf("P13: Drop(%d) of %d = %d", i, count, e)
			}
			if e := b.world.Copy(i); e != api.ErrArg {
				t.Errorf("P13: Copy(%d) of %d = %d", i, count, e)
			}
			for _, at := range []int{0, 16, 99, -1} {
				if e := b.world.Bend(i, at, 1); e != api.ErrArg {
					t.Errorf("P13: Bend(%d, %d, 1) of %d = %d", i, at, count, e)
				}
			}
		}
		b.look("calls that were refused")
	}
}

func TestDropMovesUp(t *testing.T) {
	for i := range 5 {
		b := newFlying(t, 5)
		b.bend(4, 3, 1)
		b.drop(i)
		b.look("Drop")
		b.call(0, 0, 1, 0, items(1))
		b.drop(i)
		b.look("Drop again")
		for len(b.words.flying) > 0 {
			b.drop(0)
			b.look("Drop(0)")
		}
		b.drop(0)
	}
}

func TestCopyFliesBehindAllOthers(t *testing.T) {
	for i := range 5 {
		b := newFlying(t, 5)
		b.bend(2, 9, 128)
		b.copy(i)
		b.look("Copy")
		// Each of the two is bent, dropped and copied without the other.
		b.bend(5, 1, 7)
		b.look("Bend of a copy")
		b.bend(i, 2, 9)
		b.look("Bend of what was copied")
		b.copy(5)
		b.drop(i)
		b.look("Drop of what was copied")
	}
}

func TestCopyIsFull(t *testing.T) {
	b := newFlying(t, 4)
	b.bend(1, 0, 1)
	for n := 4; n < 40; n++ {
		if e := b.world.Copy(n % 4); e != api.OK {
			t.Fatalf("P13: Copy of packet %d = %d", n, e)
		}
		b.words.copy(n % 4)
	}
	b.look("36 Copies")
	for i := range 40 {
		if e := b.world.Copy(i); e != api.ErrFull {
			t.Errorf("P13: Copy(%d) of 40 = %d", i, e)
		}
	}
	for _, i := range noPlaces(40) {
		if e := b.world.Copy(i); !b.words.isFlying(i) && e != api.ErrArg {
			t.Errorf("P13: Copy(%d) of 40 = %d", i, e)
		}
	}
	b.look("Copies that were refused")
	b.drop(20)
	b.copy(38)
	b.copy(38)
	b.look("a Copy in the place of one")
}

func TestBendTurnsEachByte(t *testing.T) {
	for at := -2; at <= 20; at++ {
		for _, by := range []int{1, 2, 127, 128, 254, 255} {
			b := newFlying(t, 3)
			b.bend(1, at, by)
			b.look("Bend")
		}
	}
	for by := -1; by <= 257; by++ {
		b := newFlying(t, 1)
		b.bend(0, 5, by)
		b.look("Bend")
	}
}

// TestBendHoldsPlacesToEachPacket: packets are not all of one length.
func TestBendHoldsPlacesToEachPacket(t *testing.T) {
	for count := range 15 {
		b := newAll(t, configW)
		b.call(0, 0, 2, 0, items(fourteen[:count]))
		length := len(b.words.flying[0].bytes)
		if e := b.world.Bend(0, length, 1); e != api.ErrArg {
			t.Errorf("P13: Bend at %d of %d bytes = %d", length, length, e)
		}
		b.bend(0, length-1, 1)
		b.look("Bend of the last byte")
	}
}

func TestBendNamesTheFirstError(t *testing.T) {
	b := newFlying(t, 2)
	if e := b.world.Bend(1, 3, 200); e != api.OK {
		t.Fatalf("P13: Bend = %d", e)
	}
	b.words.bend(1, 3, 200)
	numbers := []int{-1, 0, 1, 2, 3, 16, 17, 255, 256, 257, 1 << 32, 1<<32 + 1, math.MinInt, math.MaxInt}
	for _, i := range numbers {
		for _, at := range numbers {
			for _, by := range numbers {
				isWrong := i < 0 || i > 1 || at < 0 || at > 16 || by < 1 || by > 255
				want := api.ErrBent
				if isWrong {
					want = api.ErrArg
				}
				if i == 0 && !isWrong {
					continue
				}
				if e := b.world.Bend(i, at, by); e != want {
					t.Errorf("P13: Bend(%d, %d, %d) = %d, want %d", i, at, by, e, want)
				}
			}
		}
	}
	b.look("Bends that were refused")
	// The same byte by the same number would undo it.
	b.bend(1, 3, 200)
	b.bend(0, 3, 200)
	b.look("a Bend of another packet")
}

// TestABentPacketStaysBent: where packets ahead of it go, and in its copies.
func TestABentPacketStaysBent(t *testing.T) {
	b := newFlying(t, 4)
	b.bend(2, 10, 1)
	b.drop(0)
	b.bend(1, 11, 1)
	b.bend(2, 11, 1)
	b.copy(1)
	b.bend(3, 11, 1)
	b.drop(1)
	b.bend(2, 11, 1)
	b.bend(0, 11, 1)
	b.copy(2)
	b.bend(3, 12, 1)
	b.look("Bends, Copies and Drops")
	if n := b.world.Flying(); n != 4 {
		t.Errorf("P13: %d packets fly, want 4", n)
	}
}

// TestWhatFliesHangsOnNothingElse: a bent packet is sent again whole, and a call does not hang on its packet.
func TestWhatFliesHangsOnNothingElse(t *testing.T) {
	b := newW(t)
	b.call(0, 0, 1, 0, items(5))
	b.bend(0, 14, 3)
	for range 3 {
		b.tick()
	}
	b.look("a packet that was sent again behind a bent one")
	b.drop(0)
	b.drop(0)
	for range 6 {
		b.tick()
		b.look("Tick")
	}
}
