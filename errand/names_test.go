package errand_test

import (
	"math"
	"strings"
	"testing"

	"errand/api"
	"errand/errand"
)

func sixNames() []string { return []string{"sum", "wall", "desk", "eighteig", "a", "z"} }

func noNames() []string {
	return []string{"", "ninelette", "Sum", "suM", "s m", " sum", "sum ", "sum1", "s\xff", "\x00", "sum\x00", "`", "{", "@", "[", "é", "ß", "a\n", strings.Repeat("a", 256+3), strings.Repeat("a", 1<<20)}
}

func TestExportHoldsNamesToTheirForm(t *testing.T) {
	b := newBoth(t, configW)
	for _, name := range noNames() {
		for _, kind := range []int{0, 2, 3, -1} {
			if uid, e := b.world.Export(name, kind); uid != 0 || e != api.ErrName {
				t.Errorf("P10: Export(%.60q, %d) = %d, %d", name, kind, uid, e)
			}
		}
		if e := b.world.Withdraw(name); e != api.ErrName {
			t.Errorf("P10: Withdraw(%.60q) = %d", name, e)
		}
		if uid, kind, e := b.world.Import(0, name); uid != 0 || kind != 0 || e != api.ErrName {
			t.Errorf("P10: Import(0, %.60q) = %d, %d, %d", name, uid, kind, e)
		}
	}
	for length := 1; length <= 8; length++ {
		name := strings.Repeat("z", length)
		b.export(name, api.Board)
		b.bind(0, name)
		b.withdraw(name)
	}
	for letter := range 256 {
		name := "a" + string([]byte{byte(letter)})
		b.export(name, api.Desk)
		b.withdraw(name)
	}
}

func TestExportHoldsKindsToTheirBounds(t *testing.T) {
	b := newBoth(t, configW)
	for _, kind := range []int{-1, 3, 256, 257, 1 << 32, math.MinInt, math.MaxInt, 0, 1, 2} {
		b.export("sum", kind)
		b.bind(0, "sum")
	}
}

func TestExportCountsUids(t *testing.T) {
	b := newBoth(t, configW)
	for i, name := range sixNames() {
		if uid := b.export(name, i%3); uid != i+1 {
			t.Errorf("P10: uid %d, want %d", uid, i+1)
		}
	}
	b.export("more", 0)
	b.export("more", 9)
	b.export("More", 9)
	b.export("a", 2)
	for _, name := range sixNames() {
		b.bind(1, name)
	}
	b.withdraw("wall")
	b.withdraw("wall")
	b.bind(1, "wall")
	if uid := b.export("more", 0); uid != 8 {
		t.Errorf("P10: an uid is told twice: %d, want 8", uid)
	}
	b.export("wall", 0)
}

func TestExportIsSpent(t *testing.T) {
	b := newBoth(t, configW)
	for _, name := range sixNames() {
		b.export(name, 0)
	}
	for uid := 7; uid <= 255; uid++ {
		if got := b.export("a", uid%3); got != uid {
			t.Fatalf("P10: uid %d, want %d", got, uid)
		}
	}
	for _, c := range []struct {
		name string
		kind int
		e    api.Errno
	}{{"a", 0, api.ErrSpent}, {"a", 3, api.ErrArg}, {"A", 3, api.ErrName}, {"more", 0, api.ErrFull}, {"more", -1, api.ErrArg}} {
		if uid, e := b.world.Export(c.name, c.kind); uid != 0 || e != c.e {
			t.Errorf("P10: Export(%q, %d) with 6 names and 255 services = %d, %d, want %d", c.name, c.kind, uid, e, c.e)
		}
	}
	// What was refused has changed nothing: the name stands for the service that it stood for.
	if uid := b.bind(0, "a"); uid != 255 {
		t.Errorf("P1: the name stands for %d", uid)
	}
	b.call(0, 0, 255, 0, items(1))
	b.withdraw("sum")
	if uid, e := b.world.Export("more", 0); uid != 0 || e != api.ErrSpent {
		t.Errorf("P10: Export with 5 names and 255 services = %d, %d", uid, e)
	}
	b.bind(0, "more")
	b.look("the last uid")
}

func TestImportNamesTheFirstError(t *testing.T) {
	b := newW(t)
	for _, client := range []int{-1, 2, 3, 256, math.MinInt, math.MaxInt} {
		for _, name := range []string{"sum", "none", ""} {
			if uid, kind, e := b.world.Import(client, name); uid != 0 || kind != 0 || e != api.ErrClient {
				t.Errorf("P10: Import(%d, %q) = %d, %d, %d", client, name, uid, kind, e)
			}
		}
	}
}

func TestNamesAreKeptWhole(t *testing.T) {
	b := newBoth(t, configW)
	for _, name := range []string{"a", "aa", "aaa", "aaaaaaaa", "b", "ab"} {
		b.export(name, len(name)%3)
	}
	for _, name := range []string{"a", "aa", "aaa", "aaaaaaaa", "b", "ab", "aaaa", "ba", "aaaaaaaaa", "a\x00"} {
		b.bind(1, name)
	}
}

// TestAClientStaysBound: what becomes of the name, or of the service, is nothing to it.
func TestAClientStaysBound(t *testing.T) {
	b := newW(t)
	b.export("sum", api.Board)
	b.call(0, 0, 2, 0, items("five"))
	b.call(0, 0, 1, 0, items(5))
	b.bind(0, "sum")
	b.call(0, 1, 2, 0, items("five"))
	b.call(1, 0, 1, 0, items(5))
	b.withdraw("sum")
	b.bind(1, "sum")
	for range 9 {
		b.tick()
	}
	b.call(0, 0, 1, 0, items(5))
	b.call(0, 1, 2, 1, items(4))
	b.call(1, 0, 2, 1, items(4))
	b.look("Withdraw")
	if n := b.world.Flying(); n != 8 {
		t.Errorf("P10: %d packets fly, want 8", n)
	}
}

// TestARefusedImportBindsNothing: a service that gets the name afterwards is none to which the client was bound.
func TestARefusedImportBindsNothing(t *testing.T) {
	b := newBoth(t, configW)
	b.bind(0, "sum")
	b.bind(2, "sum")
	b.export("sum", api.Counter)
	b.call(0, 0, 1, 0, items(5))
	b.call(0, 0, 0, 0, items(5))
	b.look("a refused Import")
}

func TestWorldsHaveTheirOwnNames(t *testing.T) {
	one, two := newBoth(t, configW), newBoth(t, configW)
	for _, name := range sixNames() {
		one.export(name, 0)
		one.bind(0, name)
	}
	two.bind(0, "sum")
	two.call(0, 0, 1, 0, items(5))
	for _, name := range sixNames() {
		two.withdraw(name)
		if uid, e := two.world.Export("other", 1); e != api.OK || uid < 1 || uid > 6 {
			t.Errorf("P2: Export in another world = %d, %d", uid, e)
		}
	}
	one.look("what was done in another world")
	if w, e := errand.New(configW); e != api.OK || w == one.world || w == two.world {
		t.Errorf("P2: New answers a world that is there: %d", e)
	}
}
