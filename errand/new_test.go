package errand_test

import (
	"math"
	"testing"

	"errand/api"
	"errand/errand"
)

type configField struct {
	name  string
	field func(*api.Config) *int
	high  int
}

// configFields are the numbers of a Config; each is from 1 to what the document says.
func configFields() []configField {
	return []configField{
		{"Clients", func(c *api.Config) *int { return &c.Clients }, 3},
		{"Lines", func(c *api.Config) *int { return &c.Lines }, 3},
		{"Retry", func(c *api.Config) *int { return &c.Retry }, 8},
		{"Tries", func(c *api.Config) *int { return &c.Tries }, 6},
		{"Table", func(c *api.Config) *int { return &c.Table }, 9},
	}
}

func testNew(t *testing.T, c api.Config) {
	t.Helper()
	w, e := errand.New(c)
	if _, want := newByWords(c); e != want || (w == nil) != (e != api.OK) {
		t.Errorf("P9: New(%+v) = %v, %d, want %d", c, w, e, want)
	}
}

func TestNewHoldsEachNumberToItsBounds(t *testing.T) {
	least := api.Config{Clients: 1, Lines: 1, Retry: 1, Tries: 1, Table: 1}
	most := api.Config{Clients: 3, Lines: 3, Retry: 8, Tries: 6, Table: 9}
	testNew(t, least)
	testNew(t, most)
	testNew(t, api.Config{})
	for _, f := range configFields() {
		for _, c := range []api.Config{least, most, configW} {
			for n := -1; n <= 12; n++ {
				*f.field(&c) = n
				testNew(t, c)
			}
			for _, n := range []int{1 + 256, 1 - 256, 1 + 65536, 1 + 1<<32, math.MinInt, math.MinInt + 1, math.MaxInt} {
				*f.field(&c) = n
				testNew(t, c)
			}
		}
	}
}

func TestNewTellsSeveralWrongNumbers(t *testing.T) {
	for _, n := range []int{0, -1, 10, math.MinInt, math.MaxInt} {
		testNew(t, api.Config{Clients: n, Lines: n, Retry: n, Tries: n, Table: n})
		testNew(t, api.Config{Clients: 1, Lines: n, Retry: 1, Tries: n, Table: 1})
	}
}

func TestNothingHasHappenedInANewWorld(t *testing.T) {
	for clients := 1; clients <= 3; clients++ {
		for lines := 1; lines <= 3; lines++ {
			b := newBoth(t, api.Config{Clients: clients, Lines: lines, Retry: 1, Tries: 1, Table: 1})
			b.look("New")
			for client := -2; client <= 4; client++ {
				b.bind(client, "sum")
				for line := -2; line <= 4; line++ {
					b.status(client, line)
					b.call(client, line, 1, 0, items(5))
				}
			}
			b.withdraw("sum")
			for range 20 {
				b.tick()
			}
			b.look("twenty Ticks of a new world")
			if uid := b.export("sum", api.Counter); uid != 1 {
				t.Errorf("P10: the first uid is %d", uid)
			}
			// Each client is in its life 1, which its packets tell.
			for client := range clients {
				b.bind(client, "sum")
				for line := range lines {
					b.call(client, line, 1, 0, items(5))
				}
			}
			b.look("a call on each line")
		}
	}
}
