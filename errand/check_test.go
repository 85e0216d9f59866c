package errand_test

import (
	"math/rand"
	"strings"
	"testing"

	"errand/api"
	"errand/errand"
)

type checkCase struct {
	text string
	e    api.Errno
	at   int
}

func testCheckCases(t *testing.T, cases []checkCase) {
	t.Helper()
	for _, c := range cases {
		if e, at := errand.Check(c.text); e != c.e || at != c.at {
			t.Errorf("P3: Check(%.60q) = %d, %d, want %d, %d", c.text, e, at, c.e, c.at)
		}
	}
}

func TestCheckTellsRightTypes(t *testing.T) {
	for _, text := range []string{"b", "c", "i", "s", "e1", "e9", "a1b", "a9s", "q0b", "q9i", "r(b)", "u(b)", "r(bcisbc)", "u(bcisbc)", "r(e3q3i)", "u(bq3i)", "q2q2q2b", "r(u(a1b))", "r(r(r(b)r(b))u(e1))", "u(r(b)b)"} {
		testCheckCases(t, []checkCase{{text, api.OK, 0}})
	}
}

func TestCheckTellsThePlace(t *testing.T) {
	testCheckCases(t, []checkCase{
		{"", api.ErrType, 0}, {"x", api.ErrType, 0}, {"B", api.ErrType, 0}, {"\x00", api.ErrType, 0}, {"\xff", api.ErrType, 0}, {"3", api.ErrType, 0}, {"(b)", api.ErrType, 0}, {")", api.ErrType, 0},
		{"e", api.ErrType, 1}, {"e0", api.ErrType, 1}, {"e:", api.ErrType, 1}, {"e/", api.ErrType, 1}, {"e\x00", api.ErrType, 1}, {"e33", api.ErrType, 2},
		{"a", api.ErrType, 1}, {"a0", api.ErrType, 1}, {"a0b", api.ErrType, 1}, {"a3", api.ErrType, 2}, {"a3)", api.ErrType, 2}, {"a33b", api.ErrType, 2}, {"ab", api.ErrType, 1},
		{"q", api.ErrType, 1}, {"q0", api.ErrType, 2}, {"q/b", api.ErrType, 1}, {"q:b", api.ErrType, 1}, {"q00b", api.ErrType, 2},
		{"r", api.ErrType, 1}, {"r)", api.ErrType, 1}, {"rb", api.ErrType, 1}, {"r(", api.ErrType, 2}, {"r()", api.ErrType, 2}, {"r((", api.ErrType, 2}, {"r(b", api.ErrType, 3}, {"r(b,b)", api.ErrType, 3}, {"r(b))", api.ErrType, 4}, {"r(b)b", api.ErrType, 4},
		{"u", api.ErrType, 1}, {"u[", api.ErrType, 1}, {"u(", api.ErrType, 2}, {"u()", api.ErrType, 2}, {"u(e)", api.ErrType, 3}, {"u(b\x00)", api.ErrType, 3},
		{"bb", api.ErrType, 1}, {"b ", api.ErrType, 1}, {" b", api.ErrType, 0}, {"b\x00", api.ErrType, 1}, {"é", api.ErrType, 0},
	})
}

func TestCheckTellsTheSeventhPart(t *testing.T) {
	testCheckCases(t, []checkCase{
		{"r(bbbbbb)", api.OK, 0}, {"u(bbbbbb)", api.OK, 0}, {"r(bbbbbbb)", api.ErrType, 8}, {"u(bbbbbbb)", api.ErrType, 8}, {"r(bbbbbb", api.ErrType, 8}, {"r(bbbbbbx", api.ErrType, 8},
		{"r(e1e1e1e1e1e1e1)", api.ErrType, 14}, {"r(bbbbbu(bbbbbb))", api.OK, 0}, {"r(bbbbbu(bbbbbbb))", api.ErrType, 15}, {"r(u(bbbbbb)bbbbbb)", api.ErrType, 16},
	})
}

func TestCheckTellsDepth(t *testing.T) {
	testCheckCases(t, []checkCase{
		{"q2q2q2b", api.OK, 0}, {"q2q2q2e3", api.OK, 0}, {"r(r(r(b)))", api.OK, 0}, {"a1q1r(u(b))", api.ErrDeep, 0}, {"q2q2q2q2b", api.ErrDeep, 0}, {"r(bbbq1q1q1bbbb)", api.ErrType, 14}, {"r(bbbq1q1q1bbb)", api.ErrDeep, 0}, {"u(q1q1bb)", api.OK, 0}, {"u(bq1q1q1b)", api.ErrDeep, 0}, {"u(q1q1q1bb)", api.ErrDeep, 0},
	})
}

func TestCheckNamesTheFirstError(t *testing.T) {
	longest := "r(" + strings.Repeat("r(bbbbbb)", 4) + "b)"
	if len(longest) != api.MaxType {
		t.Fatalf("the longest type has %d bytes", len(longest))
	}
	tooLong := "r(" + strings.Repeat("r(bbbbbb)", 4) + "e1)"
	testCheckCases(t, []checkCase{
		{longest, api.OK, 0}, {tooLong, api.ErrLong, 0}, {longest[:39], api.ErrType, 39}, {longest[:39] + "x", api.ErrType, 39}, {longest + "x", api.ErrLong, 0},
		{strings.Repeat("x", 40), api.ErrType, 0}, {strings.Repeat("x", 41), api.ErrLong, 0}, {strings.Repeat("q1", 20), api.ErrType, 40}, {strings.Repeat("q1", 20) + "b", api.ErrLong, 0}, {strings.Repeat("q1", 19) + "b", api.ErrDeep, 0},
		{"r(r(r(r(r(b", api.ErrType, 11}, {"q1q1q1q1x", api.ErrType, 8}, {"q1q1q1q1bb", api.ErrType, 9}, {strings.Repeat("r(", 20), api.ErrType, 40},
	})
}

// typesUpTo answers all types of up to that many bytes which are made of few letters, by the document's words, from the shorter to the longer.
func typesUpTo(length int) map[string]int {
	byLength := make([][]string, length+1)
	// rows[n] are the rows of types, one behind the other, that have n bytes in all: what may stand in brackets.
	type row struct {
		text  string
		count int
	}
	rows := make([][]row, length+1)
	rows[0] = []row{{"", 0}}
	all := map[string]int{}
	for n := 1; n <= length; n++ {
		var found []string
		if n == 1 {
			found = append(found, "b")
		}
		if n == 2 {
			found = append(found, "e1")
		}
		if n > 2 {
			for _, part := range byLength[n-2] {
				found = append(found, "a1"+part, "q0"+part, "q1"+part)
			}
		}
		if n > 3 {
			for _, r := range rows[n-3] {
				if r.count >= 1 && r.count <= api.MaxParts {
					found = append(found, "r("+r.text+")", "u("+r.text+")")
				}
			}
		}
		byLength[n] = found
		for first := 1; first <= n; first++ {
			for _, part := range byLength[first] {
				for _, r := range rows[n-first] {
					rows[n] = append(rows[n], row{part + r.text, r.count + 1})
				}
			}
		}
		for _, text := range found {
			all[text] = n
		}
	}
	return all
}

// beginningsOf answers all beginnings of these texts.
func beginningsOf(texts map[string]int) map[string]int {
	all := map[string]int{"": 1}
	for text := range texts {
		for n := range len(text) {
			all[text[:n+1]] = 1
		}
	}
	return all
}

// placeOf answers the place that P3 tells, by its words.
func placeOf(text string, beginnings map[string]int) int {
	for n := range len(text) {
		if beginnings[text[:n+1]] == 0 {
			return n
		}
	}
	return len(text)
}

// TestCheckAgainstAllShortTypes holds every text of at most five of these letters against the list of all types that can begin so: five bytes are at the most five more from the end of a type ("r(r(r").
func TestCheckAgainstAllShortTypes(t *testing.T) {
	types := typesUpTo(10)
	beginnings := beginningsOf(types)
	var try func(text string)
	try = func(text string) {
		wantE, wantAt := api.OK, 0
		if types[text] == 0 {
			wantE, wantAt = api.ErrType, placeOf(text, beginnings)
		}
		if e, at := errand.Check(text); e != wantE || at != wantAt {
			t.Errorf("P3: Check(%q) = %d, %d, want %d, %d", text, e, at, wantE, wantAt)
		}
		if len(text) == 5 {
			return
		}
		for _, letter := range "beaqru()01x" {
			try(text + string(letter))
		}
	}
	try("")
}

func TestCheckOfDrawnTypes(t *testing.T) {
	r := rand.New(rand.NewSource(3))
	for range 20000 {
		s := drawSample(r, api.MaxDepth+1)
		want := api.OK
		if len(s.text) > api.MaxType {
			want = api.ErrLong
		} else if s.depth > api.MaxDepth {
			want = api.ErrDeep
		}
		testCheckCases(t, []checkCase{{s.text, want, 0}})
		if want == api.ErrLong {
			continue
		}
		cut := r.Intn(len(s.text))
		testCheckCases(t, []checkCase{{s.text[:cut], api.ErrType, cut}, {s.text[:cut] + "X" + s.text[cut+1:], api.ErrType, cut}})
	}
}
