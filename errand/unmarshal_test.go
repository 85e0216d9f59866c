package errand_test

import (
	"math/rand"
	"strings"
	"testing"

	"errand/api"
	"errand/errand"
)

func testUnmarshalRefuses(t *testing.T, text string, bytes string, want api.Errno) {
	t.Helper()
	if v, e := errand.Unmarshal(text, bytes); len(v) != 0 || e != want {
		t.Errorf("P5: Unmarshal(%.60q, %.100q) = %v, %d, want %d", text, bytes, v, e, want)
	}
}

func TestUnmarshalOfAllNumbers(t *testing.T) {
	for _, c := range []struct {
		text      string
		low, high int
	}{{"b", 0, 1}, {"c", 0, 65535}, {"i", -32768, 32767}, {"e1", 0, 0}, {"e3", 0, 2}, {"e9", 0, 8}} {
		right := map[string]int{}
		for n := c.low; n <= c.high; n++ {
			right[twoBytes(n)] = n
		}
		for n := range 65536 {
			bytes := string([]byte{byte(n / 256), byte(n % 256)})
			want, ok := right[bytes]
			if !ok {
				testUnmarshalRefuses(t, c.text, bytes, api.ErrBytes)
			} else if v, e := errand.Unmarshal(c.text, bytes); !same(v, items(want)) || e != api.OK {
				t.Errorf("P5: Unmarshal(%q, %q) = %v, %d, want %d", c.text, bytes, v, e, want)
			}
		}
	}
}

// TestUnmarshalOfShortStrings tries all texts of at most six of four bytes: among them are strings up to four bytes, with right and wrong lengths and bytes behind them.
func TestUnmarshalOfShortStrings(t *testing.T) {
	right := map[string]api.Item{"\x00\x00": {}}
	letters := []string{"\x00", "\x01", "\x02", "\x03"}
	for _, a := range letters {
		right["\x00\x01"+a+"\x00"] = api.Item{S: a}
		for _, b := range letters {
			right["\x00\x02"+a+b] = api.Item{S: a + b}
			for _, c := range letters {
				right["\x00\x03"+a+b+c+"\x00"] = api.Item{S: a + b + c}
			}
		}
	}
	var try func(bytes string)
	try = func(bytes string) {
		if want, ok := right[bytes]; !ok {
			testUnmarshalRefuses(t, "s", bytes, api.ErrBytes)
		} else if v, e := errand.Unmarshal("s", bytes); !same(v, []api.Item{want}) || e != api.OK {
			t.Errorf("P5: Unmarshal(s, %q) = %v, %d, want %v", bytes, v, e, want)
		}
		if len(bytes) < 6 {
			for _, a := range letters {
				try(bytes + a)
			}
		}
	}
	try("")
}

func TestUnmarshalRefusesWrongBytes(t *testing.T) {
	for _, c := range []struct{ text, bytes string }{
		{"s", "\x00\x01a\x01"}, {"s", "\x00\x01a\xff"}, {"s", "\x00\x01aa"}, {"s", "\x00\x01a"}, {"s", "\x00\x01a\x00\x00"}, {"s", "\x00\x02ab\x00"}, {"s", "\x00\x0f" + fourteen + ".\x00"}, {"s", "\x00\x10" + fourteen + ".."}, {"s", "\x01\x00"}, {"s", "\xff\xff"}, {"s", "\x00\x0ethirteen long"}, {"s", "\x01\x01a\x00"},
		{"a2b", "\x00\x01"}, {"a2b", "\x00\x01\x00\x01\x00\x01"}, {"a2b", "\x00\x01\x00\x02"}, {"a2b", "\x00\x01\x00"},
		{"q1b", "\x00\x02\x00\x00\x00\x00"}, {"q2b", "\x00\x02\x00\x00"}, {"q0b", "\x00\x01\x00\x01"}, {"q2b", "\x00\x01\x00\x00\x00\x00"}, {"q2b", "\xff\xff"}, {"q2b", ""},
		{"r(bs)", "\x00\x01"}, {"r(bs)", "\x00\x02\x00\x00"}, {"r(bb)", "\x00\x01\x00\x01\x00\x01"},
		{"u(b)", "\x00\x01\x00\x00"}, {"u(bc)", "\x00\x02\x00\x00"}, {"u(bc)", "\x00\x00\x00\x02"}, {"u(bc)", "\x00\x01"}, {"u(bc)", "\xff\xff\x00\x00"},
		{"c", strings.Repeat("\x00", 70)},
	} {
		testUnmarshalRefuses(t, c.text, c.bytes, api.ErrBytes)
	}
}

func TestUnmarshalNamesTheFirstError(t *testing.T) {
	most, more := strings.Repeat("\x00", api.MaxMessage), strings.Repeat("\x00", api.MaxMessage+1)
	testUnmarshalRefuses(t, strings.Repeat("x", 41), more, api.ErrLong)
	testUnmarshalRefuses(t, strings.Repeat("x", 40), more, api.ErrType)
	testUnmarshalRefuses(t, "q1q1q1q1b", more, api.ErrDeep)
	testUnmarshalRefuses(t, "q1q1q1q1b", "\x00\x00", api.ErrDeep)
	testUnmarshalRefuses(t, "b", more, api.ErrBig)
	testUnmarshalRefuses(t, "a9a4b", more+"\x00", api.ErrBig)
	testUnmarshalRefuses(t, "a9a4b", most, api.ErrBytes)
	if v, e := errand.Unmarshal("a5a7b", most); !same(v, zeros(35)) || e != api.OK {
		t.Errorf("P5: 70 bytes are %v, %d", v, e)
	}
}

func TestUnmarshalOfDrawnValues(t *testing.T) {
	r := rand.New(rand.NewSource(5))
	for range 20000 {
		s := drawRight(r)
		list, bytes := s.draw(r)
		if len(bytes) > api.MaxMessage {
			testUnmarshalRefuses(t, s.text, bytes, api.ErrBig)
			testUnmarshalRefuses(t, s.text, bytes[:api.MaxMessage], api.ErrBytes)
			continue
		}
		if v, e := errand.Unmarshal(s.text, bytes); !same(v, list) || e != api.OK {
			t.Fatalf("P5: Unmarshal(%q, %q) = %v, %d, want %v", s.text, bytes, v, e, list)
		}
		at := r.Intn(len(bytes))
		testUnmarshalRefuses(t, s.text, bytes[:at], api.ErrBytes)
		if len(bytes) < api.MaxMessage {
			testUnmarshalRefuses(t, s.text, bytes+"\x00", api.ErrBytes)
		}
		bent := []byte(bytes)
		bent[at] ^= byte(1 + r.Intn(255))
		testReadsBack(t, s.text, string(bent))
	}
}

// testReadsBack holds Unmarshal against Marshal: bytes that are taken must be the bytes of the value they are taken for.
func testReadsBack(t *testing.T, text string, bytes string) {
	t.Helper()
	v, e := errand.Unmarshal(text, bytes)
	if e == api.ErrBytes && len(v) == 0 {
		return
	}
	if s, again := errand.Marshal(text, v); e != api.OK || again != api.OK || s != bytes {
		t.Errorf("P5: Unmarshal(%q, %q) = %v, %d, whose bytes are %q, %d", text, bytes, v, e, s, again)
	}
}
