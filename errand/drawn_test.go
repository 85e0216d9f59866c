package errand_test

import (
	"fmt"
	"maps"
	"math/rand"
	"slices"
	"testing"

	"errand/api"
)

func drawConfig(r *rand.Rand) api.Config {
	var c api.Config
	for _, f := range configFields() {
		*f.field(&c) = drawWithin(r, 1, f.high)
	}
	return c
}

// drawNear makes a number of those that may be, or one beside them, or any.
func drawNear(r *rand.Rand, low, high int) int {
	switch r.Intn(40) {
	case 0:
		return low - 1
	case 1:
		return high + 1
	case 2:
		return drawAnyNumber(r)
	}
	return low + r.Intn(high-low+1)
}

func drawName(r *rand.Rand) string {
	switch r.Intn(12) {
	case 0:
		return drawBytes(r, 10)
	case 1:
		wrong := []string{"", "ninelette", "Sum", "s m", "sum1", "s\xff", "sum\x00", "`", "{", "é", "zzzzzzzzzzzz"}
		return wrong[r.Intn(len(wrong))]
	}
	right := []string{"a", "z", "sum", "wall", "desk", "eighteig", "sun", "azazazaz"}
	return right[r.Intn(len(right))]
}

// drawArgument makes an argument of that procedure, or near one.
func drawArgument(r *rand.Rand, kind, proc int) []api.Item {
	if r.Intn(12) == 0 {
		return drawItems(r, 6)
	}
	switch {
	case kind == api.Counter && proc == 0:
		return items(drawNear(r, -32768, 32767))
	case kind == api.Counter:
		return items(drawNear(r, 0, 1))
	case kind == api.Board && proc == 0:
		return items(drawBody(r, r.Intn(api.MaxString+2)))
	case kind == api.Board:
		return items(drawNear(r, 0, 65535))
	}
	list := items(drawNear(r, 0, 2), r.Intn(4))
	for range list[1].N {
		list = append(list, api.Item{N: drawWithin(r, -32768, 32767)})
	}
	return list
}

// drawUid makes that of a service to which the client is bound, if there is one, or another.
func (b bothWorlds) drawUid(r *rand.Rand, client int) int {
	if b.words.hasClient(client) && len(b.words.bound[client]) > 0 && r.Intn(5) > 0 {
		uids := slices.Sorted(maps.Keys(b.words.bound[client]))
		return uids[r.Intn(len(uids))]
	}
	return drawNear(r, 1, max(1, len(b.words.kinds)))
}

func (b bothWorlds) drawCall(r *rand.Rand, client, line int) string {
	b.t.Helper()
	uid, proc, kind := b.drawUid(r, client), drawNear(r, 0, 1), r.Intn(3)
	if uid >= 1 && uid <= len(b.words.kinds) {
		kind = b.words.kinds[uid-1]
	}
	arg := drawArgument(r, kind, proc)
	e := b.call(client, line, uid, proc, arg)
	return fmt.Sprintf("Call(%d, %d, %d, %d, %s), which is %d", client, line, uid, proc, toldItems(arg), e)
}

// action makes one call, with anything, at a world and at the words; it tells which.
type action struct {
	often int
	make  func(bothWorlds, *rand.Rand) string
}

func actions() []action {
	return []action{
		{1, bothWorlds.drawExport}, {1, bothWorlds.drawWithdraw}, {5, bothWorlds.drawImport}, {1, bothWorlds.drawCrash},
		{30, func(b bothWorlds, r *rand.Rand) string { return b.drawCall(r, b.drawClient(r), b.drawLine(r)) }},
		{15, func(b bothWorlds, r *rand.Rand) string { b.tick(); return "Tick" }},
		{2, bothWorlds.drawLook}, {3, bothWorlds.drawDrop}, {5, bothWorlds.drawCopy}, {2, bothWorlds.drawBend},
		{80, bothWorlds.drawDeliver},
		{20, func(b bothWorlds, r *rand.Rand) string { return fmt.Sprintf("Serve, which is %d", b.serve()) }},
	}
}

// drawMood makes some actions come more often than usual, so that worlds are unlike one another: one fills its queue of jobs, one its network.
func drawMood(r *rand.Rand) []action {
	list := actions()
	for i := range list {
		list[i].often *= []int{1, 1, 2, 5}[r.Intn(4)]
	}
	return list
}

func drawAction(r *rand.Rand, mood []action) action {
	all := 0
	for _, a := range mood {
		all += a.often
	}
	n := r.Intn(all)
	for _, a := range mood {
		if n < a.often {
			return a
		}
		n -= a.often
	}
	return mood[0]
}

func (b bothWorlds) drawClient(r *rand.Rand) int { return drawNear(r, 0, b.words.config.Clients-1) }

func (b bothWorlds) drawLine(r *rand.Rand) int { return drawNear(r, 0, b.words.config.Lines-1) }

func (b bothWorlds) drawFlying(r *rand.Rand) int {
	return drawNear(r, 0, max(0, len(b.words.flying)-1))
}

func (b bothWorlds) drawExport(r *rand.Rand) string {
	b.t.Helper()
	name, kind := drawName(r), drawNear(r, 0, 2)
	b.export(name, kind)
	return fmt.Sprintf("Export(%q, %d)", name, kind)
}

func (b bothWorlds) drawWithdraw(r *rand.Rand) string {
	b.t.Helper()
	name := drawName(r)
	b.withdraw(name)
	return fmt.Sprintf("Withdraw(%q)", name)
}

func (b bothWorlds) drawImport(r *rand.Rand) string {
	b.t.Helper()
	client, name := b.drawClient(r), drawName(r)
	b.bind(client, name)
	return fmt.Sprintf("Import(%d, %q)", client, name)
}

// drawCrash lets a host crash; calls go on at once behind half of the crashes, so that packets of earlier lives meet them.
func (b bothWorlds) drawCrash(r *rand.Rand) string {
	b.t.Helper()
	host := drawNear(r, -1, b.words.config.Clients-1)
	behind := fmt.Sprintf("Crash(%d), which is %d", host, b.crash(host))
	if r.Intn(2) == 0 {
		b.look(behind)
		b.beginAgain(r)
		behind += ", and a new beginning"
	}
	return behind
}

// beginAgain lets some names stand for new services, and binds all clients to all names.
func (b bothWorlds) beginAgain(r *rand.Rand) {
	b.t.Helper()
	for _, name := range slices.Sorted(maps.Keys(b.words.names)) {
		if r.Intn(2) == 0 {
			b.export(name, r.Intn(3))
		}
		for client := range b.words.config.Clients {
			b.bind(client, name)
		}
	}
}

func (b bothWorlds) drawLook(r *rand.Rand) string {
	b.t.Helper()
	b.status(b.drawClient(r), b.drawLine(r))
	b.show(b.drawFlying(r))
	uid := drawNear(r, 1, max(1, len(b.words.kinds)))
	count := b.log("a Log", uid)
	b.entry("a Log", uid, drawNear(r, 0, max(0, count-1)))
	return "Status, Show, Log and Entry"
}

func (b bothWorlds) drawDrop(r *rand.Rand) string {
	b.t.Helper()
	i := b.drawFlying(r)
	b.drop(i)
	return fmt.Sprintf("Drop(%d)", i)
}

func (b bothWorlds) drawCopy(r *rand.Rand) string {
	b.t.Helper()
	i := b.drawFlying(r)
	b.copy(i)
	return fmt.Sprintf("Copy(%d)", i)
}

func (b bothWorlds) drawBend(r *rand.Rand) string {
	b.t.Helper()
	i, at, by := b.drawFlying(r), drawNear(r, 0, 16), drawNear(r, 1, 255)
	b.bend(i, at, by)
	return fmt.Sprintf("Bend(%d, %d, %d)", i, at, by)
}

func (b bothWorlds) drawDeliver(r *rand.Rand) string {
	b.t.Helper()
	i := b.drawFlying(r)
	if r.Intn(3) == 0 {
		i = 0
	}
	b.deliver(i)
	return fmt.Sprintf("Deliver(%d)", i)
}

// drawWorld makes a new world, or one in which calls can be made at once.
func drawWorld(t *testing.T, r *rand.Rand) bothWorlds {
	t.Helper()
	if r.Intn(3) == 0 {
		return newBoth(t, drawConfig(r))
	}
	return newAll(t, drawConfig(r))
}

// TestDrawnWorlds makes drawn calls at several worlds by turns: each must be what the words say of it alone.
func TestDrawnWorlds(t *testing.T) {
	r := rand.New(rand.NewSource(9))
	for range 60 {
		worlds, moods := make([]bothWorlds, 3), make([][]action, 3)
		for i := range worlds {
			worlds[i], moods[i] = drawWorld(t, r), drawMood(r)
		}
		for range 100 {
			for range 50 {
				i := r.Intn(len(worlds))
				worlds[i].look(drawAction(r, moods[i]).make(worlds[i], r))
			}
			for _, b := range worlds {
				b.look("what was done in other worlds")
			}
		}
		for _, b := range worlds {
			b.lookAtLogs("all")
		}
	}
}
