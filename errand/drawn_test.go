package errand_test

import (
	"fmt"
	"maps"
	"math/rand"
	"slices"
	"testing"

	"errand/api"
)

func drawConfig(r *rand.Rand) api.Config {
	var c api.Config
	for _, f := range configFields() {
		*f.field(&c) = drawWithin(r, 1, f.high)
	}
	return c
}

// drawNear makes a number of those that may be, or one beside them, or any.
func drawNear(r *rand.Rand, low, high int) int {
	switch r.Intn(12) {
	case 0:
		return low - 1
	case 1:
		return high + 1
	case 2:
		return drawAnyNumber(r)
	}
	return low + r.Intn(high-low+1)
}

func drawName(r *rand.Rand) string {
	switch r.Intn(12) {
	case 0:
		return drawBytes(r, 10)
	case 1:
		wrong := []string{"", "ninelette", "Sum", "s m", "sum1", "s\xff", "sum\x00", "`", "{", "é", "zzzzzzzzzzzz"}
		return wrong[r.Intn(len(wrong))]
	}
	right := []string{"a", "z", "sum", "wall", "desk", "eighteig", "sun", "azazazaz"}
	return right[r.Intn(len(right))]
}

// drawArgument makes an argument of that procedure, or near one.
func drawArgument(r *rand.Rand, kind, proc int) []api.Item {
	if r.Intn(6) == 0 {
		return drawItems(r, 6)
	}
	switch {
	case kind == api.Counter && proc == 0:
		return items(drawNear(r, -32768, 32767))
	case kind == api.Counter:
		return items(drawNear(r, 0, 1))
	case kind == api.Board && proc == 0:
		return items(drawBody(r, r.Intn(api.MaxString+2)))
	case kind == api.Board:
		return items(drawNear(r, 0, 65535))
	}
	list := items(drawNear(r, 0, 2), r.Intn(4))
	for range list[1].N {
		list = append(list, api.Item{N: drawWithin(r, -32768, 32767)})
	}
	return list
}

// drawUid makes that of a service to which the client is bound, if there is one, or another.
func (b bothWorlds) drawUid(r *rand.Rand, client int) int {
	if b.words.hasClient(client) && len(b.words.bound[client]) > 0 && r.Intn(5) > 0 {
		uids := slices.Sorted(maps.Keys(b.words.bound[client]))
		return uids[r.Intn(len(uids))]
	}
	return drawNear(r, 1, max(1, len(b.words.kinds)))
}

func (b bothWorlds) drawCall(r *rand.Rand, client, line int) string {
	b.t.Helper()
	uid, proc, kind := b.drawUid(r, client), drawNear(r, 0, 1), r.Intn(3)
	if uid >= 1 && uid <= len(b.words.kinds) {
		kind = b.words.kinds[uid-1]
	}
	arg := drawArgument(r, kind, proc)
	e := b.call(client, line, uid, proc, arg)
	return fmt.Sprintf("Call(%d, %d, %d, %d, %s), which is %d", client, line, uid, proc, toldItems(arg), e)
}

// step makes one call, with anything, at the world and at the words; it tells which.
func (b bothWorlds) step(r *rand.Rand) string {
	b.t.Helper()
	clients, lines := b.words.config.Clients, b.words.config.Lines
	client, line := drawNear(r, 0, clients-1), drawNear(r, 0, lines-1)
	i := drawNear(r, 0, max(0, len(b.words.flying)-1))
	switch r.Intn(32) {
	case 0:
		name, kind := drawName(r), drawNear(r, 0, 2)
		b.export(name, kind)
		return fmt.Sprintf("Export(%q, %d)", name, kind)
	case 1:
		name := drawName(r)
		b.withdraw(name)
		return fmt.Sprintf("Withdraw(%q)", name)
	case 2, 3, 4, 5, 6, 7, 8:
		name := drawName(r)
		b.bind(client, name)
		return fmt.Sprintf("Import(%d, %q)", client, name)
	case 9, 10, 11, 12, 13, 14, 15, 16, 17, 18:
		return b.drawCall(r, client, line)
	case 19, 20, 21, 22, 23, 24:
		b.tick()
		return "Tick"
	case 25:
		b.status(client, line)
		b.show(i)
		return "Status and Show"
	case 26:
		b.drop(i)
		return fmt.Sprintf("Drop(%d)", i)
	case 27, 28, 29, 30:
		b.copy(i)
		return fmt.Sprintf("Copy(%d)", i)
	}
	at, by := drawNear(r, 0, 16), drawNear(r, 1, 255)
	b.bend(i, at, by)
	return fmt.Sprintf("Bend(%d, %d, %d)", i, at, by)
}

// TestDrawnWorlds makes drawn calls at several worlds by turns: each must be what the words say of it alone.
func TestDrawnWorlds(t *testing.T) {
	r := rand.New(rand.NewSource(9))
	for range 60 {
		worlds := make([]bothWorlds, 3)
		for i := range worlds {
			worlds[i] = newBoth(t, drawConfig(r))
		}
		for range 900 {
			behind := worlds[r.Intn(len(worlds))].step(r)
			for _, b := range worlds {
				b.look(behind)
			}
		}
	}
}
