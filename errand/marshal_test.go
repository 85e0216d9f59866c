package errand_test

import (
	"math"
	"math/rand"
	"strings"
	"testing"

	"errand/api"
	"errand/errand"
)

const fourteen = "fourteen bytes"

func TestMarshalWritesBytes(t *testing.T) {
	for _, c := range []struct {
		text  string
		value []api.Item
		bytes string
	}{
		{"b", items(0), "\x00\x00"}, {"b", items(1), "\x00\x01"},
		{"c", items(0), "\x00\x00"}, {"c", items(258), "\x01\x02"}, {"c", items(65535), "\xff\xff"},
		{"i", items(-2), "\xff\xfe"}, {"i", items(-32768), "\x80\x00"}, {"i", items(-1), "\xff\xff"}, {"i", items(32767), "\x7f\xff"},
		{"e1", items(0), "\x00\x00"}, {"e9", items(8), "\x00\x08"},
		{"s", items(""), "\x00\x00"}, {"s", items("a"), "\x00\x01a\x00"}, {"s", items("ab"), "\x00\x02ab"}, {"s", items("abc"), "\x00\x03abc\x00"}, {"s", items("\x00\xff\x00"), "\x00\x03\x00\xff\x00\x00"}, {"s", items("thirteen long"), "\x00\x0dthirteen long\x00"}, {"s", items(fourteen), "\x00\x0e" + fourteen},
		{"a3c", items(1, 2, 3), "\x00\x01\x00\x02\x00\x03"}, {"a1s", items("x"), "\x00\x01x\x00"},
		{"q0s", items(0), "\x00\x00"}, {"q3i", items(0), "\x00\x00"}, {"q3i", items(3, 1, 0, -1), "\x00\x03\x00\x01\x00\x00\xff\xff"},
		{"r(bsc)", items(1, "y", 9), "\x00\x01\x00\x01y\x00\x00\x09"},
		{"u(bq3i)", items(0, 1), "\x00\x00\x00\x01"}, {"u(bq3i)", items(1, 2, 5, -1), "\x00\x01\x00\x02\x00\x05\xff\xff"}, {"u(bbbbbs)", items(5, "z"), "\x00\x05\x00\x01z\x00"},
		{"a2q2r(bs)", items(1, 1, "p", 2, 0, "", 1, "qq"), "\x00\x01\x00\x01\x00\x01p\x00\x00\x02\x00\x00\x00\x00\x00\x01\x00\x02qq"},
	} {
		if s, e := errand.Marshal(c.text, c.value); s != c.bytes || e != api.OK {
			t.Errorf("P4: Marshal(%q, %v) = %q, %d, want %q", c.text, c.value, s, e, c.bytes)
		}
		if v, e := errand.Unmarshal(c.text, c.bytes); !same(v, c.value) || e != api.OK {
			t.Errorf("P5: Unmarshal(%q, %q) = %v, %d, want %v", c.text, c.bytes, v, e, c.value)
		}
	}
}

func testMarshalRefuses(t *testing.T, text string, value []api.Item, want api.Errno) {
	t.Helper()
	if s, e := errand.Marshal(text, value); s != "" || e != want {
		t.Errorf("P4: Marshal(%.60q, %.200v) = %q, %d, want %d", text, value, s, e, want)
	}
}

func TestMarshalRefusesNumbersOutOfBounds(t *testing.T) {
	for _, c := range []struct {
		text      string
		low, high int
	}{{"b", 0, 1}, {"c", 0, 65535}, {"i", -32768, 32767}, {"e1", 0, 0}, {"e9", 0, 8}} {
		for _, n := range []int{c.low - 1, c.high + 1, c.low + 65536, c.high - 65536 - 1, math.MinInt, math.MaxInt, 1 << 32, -1 << 32} {
			if n < c.low || n > c.high {
				testMarshalRefuses(t, c.text, items(n), api.ErrValue)
			}
		}
		for _, n := range []int{c.low, c.high} {
			if s, e := errand.Marshal(c.text, items(n)); e != api.OK || s != twoBytes(n) {
				t.Errorf("P4: Marshal(%q, %d) = %q, %d", c.text, n, s, e)
			}
		}
	}
	for _, c := range []struct {
		text  string
		value []api.Item
	}{
		{"q2b", items(3, 0, 0, 0)}, {"q2b", items(-1)}, {"q0b", items(1, 0)}, {"q2b", items(math.MaxInt)}, {"q2b", items(math.MinInt)}, {"u(bc)", items(2, 0)}, {"u(bc)", items(-1, 0)}, {"u(b)", items(math.MaxInt, 0)}, {"u(b)", items(math.MinInt, 0)}, {"u(bc)", items(0, 2)}, {"r(be2)", items(1, 2)}, {"a2b", items(0, 2)},
	} {
		testMarshalRefuses(t, c.text, c.value, api.ErrValue)
	}
}

func TestMarshalRefusesItemsOfTheOtherSort(t *testing.T) {
	for _, text := range []string{"b", "c", "i", "e9", "q1b", "u(b)"} {
		testMarshalRefuses(t, text, items("", "x"), api.ErrValue)
		testMarshalRefuses(t, text, []api.Item{{N: 0, S: "x"}}, api.ErrValue)
		testMarshalRefuses(t, text, []api.Item{{N: 0, S: "x"}, {}}, api.ErrValue)
	}
	for _, n := range []int{1, -1, 65536, math.MaxInt, math.MinInt} {
		testMarshalRefuses(t, "s", []api.Item{{N: n}}, api.ErrValue)
		testMarshalRefuses(t, "s", []api.Item{{N: n, S: "x"}}, api.ErrValue)
	}
	testMarshalRefuses(t, "s", items(fourteen+"."), api.ErrValue)
	testMarshalRefuses(t, "s", items(strings.Repeat("s", 65536)), api.ErrValue)
}

func TestMarshalRefusesListsTooShortOrTooLong(t *testing.T) {
	for _, c := range []struct {
		text  string
		value []api.Item
	}{
		{"b", items(1)}, {"s", items("")}, {"a3b", items(0, 1, 0)}, {"q0b", items(0)}, {"q3b", items(2, 0, 1)}, {"r(bs)", items(1, "a")}, {"u(bs)", items(1, "a")}, {"u(a2bs)", items(0, 1, 1)},
	} {
		for n := range len(c.value) {
			testMarshalRefuses(t, c.text, c.value[:n], api.ErrValue)
		}
		testMarshalRefuses(t, c.text, append(c.value, api.Item{}), api.ErrValue)
		testMarshalRefuses(t, c.text, append(c.value, zeros(100000)...), api.ErrValue)
	}
}

func TestMarshalRefusesMoreThanAMessage(t *testing.T) {
	if s, e := errand.Marshal("a5a7b", zeros(35)); len(s) != api.MaxMessage || e != api.OK {
		t.Errorf("P4: 35 numbers are %d bytes, %d", len(s), e)
	}
	testMarshalRefuses(t, "a9a4b", zeros(36), api.ErrBig)
	testMarshalRefuses(t, "a9a9b", zeros(81), api.ErrBig)
	testMarshalRefuses(t, "q9q9q9b", fullSequences(), api.ErrBig)
	four := items(5, fourteen, fourteen, fourteen, fourteen)
	if s, e := errand.Marshal("q9s", append(four, items("a")...)); len(s) != api.MaxMessage || e != api.OK {
		t.Errorf("P4: four long strings and a short one are %d bytes, %d", len(s), e)
	}
	testMarshalRefuses(t, "q9s", append(four, items("abc")...), api.ErrBig)
}

// fullSequences is the longest value of q9q9q9b.
func fullSequences() []api.Item {
	list := items(9)
	for range 9 {
		list = append(list, api.Item{N: 9})
		for range 9 {
			list = append(list, api.Item{N: 9})
			list = append(list, zeros(9)...)
		}
	}
	return list
}

func TestMarshalNamesTheFirstError(t *testing.T) {
	testMarshalRefuses(t, strings.Repeat("x", 41), items("x"), api.ErrLong)
	testMarshalRefuses(t, strings.Repeat("x", 40), items("x"), api.ErrType)
	testMarshalRefuses(t, "", nil, api.ErrType)
	testMarshalRefuses(t, "r(b", items(7), api.ErrType)
	testMarshalRefuses(t, "q1q1q1q1b", items(7), api.ErrDeep)
	testMarshalRefuses(t, "q1q1q1q1b", items(0), api.ErrDeep)
	testMarshalRefuses(t, "a9a9b", zeros(80), api.ErrValue)
	testMarshalRefuses(t, "a9a9b", zeros(82), api.ErrValue)
	wrongAtTheEnd := zeros(81)
	wrongAtTheEnd[80].N = 2
	testMarshalRefuses(t, "a9a9b", wrongAtTheEnd, api.ErrValue)
}

func TestMarshalOfDrawnValues(t *testing.T) {
	r := rand.New(rand.NewSource(4))
	fit := 0
	for range 20000 {
		s := drawRight(r)
		list, bytes := s.draw(r)
		want := api.OK
		if len(bytes) > api.MaxMessage {
			bytes, want = "", api.ErrBig
		} else {
			fit++
		}
		if got, e := errand.Marshal(s.text, list); got != bytes || e != want {
			t.Fatalf("P4: Marshal(%q, %v) = %q, %d, want %q, %d", s.text, list, got, e, bytes, want)
		}
		at := r.Intn(len(list))
		testMarshalRefuses(t, s.text, list[:at], api.ErrValue)
		testMarshalRefuses(t, s.text, append(list[:len(list):len(list)], list[at]), api.ErrValue)
		for _, bad := range []api.Item{{N: 65536}, {N: -32769}, {N: 1, S: "x"}, {S: fourteen + "."}} {
			spoilt := append([]api.Item(nil), list...)
			spoilt[at] = bad
			testMarshalRefuses(t, s.text, spoilt, api.ErrValue)
		}
	}
	if fit < 1000 {
		t.Errorf("only %d values fit into a message: the test is too thin", fit)
	}
}
