package errand_test

import (
	"math/rand"
	"slices"
	"strconv"
	"strings"

	"errand/api"
)

// items makes a list of items of numbers and strings.
func items(parts ...any) []api.Item {
	var list []api.Item
	for _, p := range parts {
		switch x := p.(type) {
		case int:
			list = append(list, api.Item{N: x})
		case string:
			list = append(list, api.Item{S: x})
		default:
			panic("items: neither number nor string")
		}
	}
	return list
}

func zeros(count int) []api.Item { return make([]api.Item, count) }

// sample is a type, with its text and depth, and a way to draw a value of it together with its bytes. It is put together from the document's words alone, with nothing of the program in it.
type sample struct {
	text  string
	depth int
	draw  func(*rand.Rand) ([]api.Item, string)
}

func twoBytes(n int) string {
	if n < 0 {
		n += 65536
	}
	return string([]byte{byte(n / 256), byte(n % 256)})
}

func drawNumber(low, high int) func(*rand.Rand) ([]api.Item, string) {
	return func(r *rand.Rand) ([]api.Item, string) {
		n := low + r.Intn(high-low+1)
		switch r.Intn(4) {
		case 0:
			n = low
		case 1:
			n = high
		}
		return items(n), twoBytes(n)
	}
}

func drawString(r *rand.Rand) ([]api.Item, string) {
	b := make([]byte, r.Intn(api.MaxString+1))
	for i := range b {
		b[i] = byte(r.Intn(256))
	}
	bytes := twoBytes(len(b)) + string(b)
	if len(b)%2 != 0 {
		bytes += "\x00"
	}
	return items(string(b)), bytes
}

func drawTimes(r *rand.Rand, times int, part sample) ([]api.Item, string) {
	var list []api.Item
	var bytes strings.Builder
	for i := 0; i < times; i++ {
		l, b := part.draw(r)
		list = append(list, l...)
		bytes.WriteString(b)
	}
	return list, bytes.String()
}

// drawSample makes a type of at most that depth.
func drawSample(r *rand.Rand, depth int) sample {
	choices := 9
	if depth == 1 {
		choices = 5
	}
	switch r.Intn(choices) {
	case 0:
		return sample{"b", 1, drawNumber(0, 1)}
	case 1:
		return sample{"c", 1, drawNumber(0, 65535)}
	case 2:
		return sample{"i", 1, drawNumber(-32768, 32767)}
	case 3:
		return sample{"s", 1, drawString}
	case 4:
		d := 1 + r.Intn(9)
		return sample{"e" + strconv.Itoa(d), 1, drawNumber(0, d-1)}
	case 5:
		return arraySample(1+r.Intn(9), drawSample(r, depth-1))
	case 6:
		return sequenceSample(r.Intn(10), drawSample(r, depth-1))
	case 7:
		return recordSample(drawParts(r, depth-1))
	}
	return choiceSample(drawParts(r, depth-1))
}

func drawParts(r *rand.Rand, depth int) []sample {
	parts := make([]sample, 1+r.Intn(api.MaxParts))
	for i := range parts {
		parts[i] = drawSample(r, depth)
	}
	return parts
}

func arraySample(d int, part sample) sample {
	return sample{"a" + strconv.Itoa(d) + part.text, part.depth + 1, func(r *rand.Rand) ([]api.Item, string) {
		return drawTimes(r, d, part)
	}}
}

func sequenceSample(d int, part sample) sample {
	return sample{"q" + strconv.Itoa(d) + part.text, part.depth + 1, func(r *rand.Rand) ([]api.Item, string) {
		k := r.Intn(d + 1)
		list, bytes := drawTimes(r, k, part)
		return append(items(k), list...), twoBytes(k) + bytes
	}}
}

func recordSample(parts []sample) sample {
	text, depth := inBrackets(parts)
	return sample{"r" + text, depth, func(r *rand.Rand) ([]api.Item, string) {
		var list []api.Item
		bytes := ""
		for _, p := range parts {
			l, b := p.draw(r)
			list = append(list, l...)
			bytes += b
		}
		return list, bytes
	}}
}

func choiceSample(parts []sample) sample {
	text, depth := inBrackets(parts)
	return sample{"u" + text, depth, func(r *rand.Rand) ([]api.Item, string) {
		k := r.Intn(len(parts))
		list, bytes := parts[k].draw(r)
		return append(items(k), list...), twoBytes(k) + bytes
	}}
}

func inBrackets(parts []sample) (string, int) {
	text, depth := "(", 0
	for _, p := range parts {
		text += p.text
		depth = max(depth, p.depth)
	}
	return text + ")", depth + 1
}

// drawRight makes a type that Check is to find right.
func drawRight(r *rand.Rand) sample {
	for {
		s := drawSample(r, api.MaxDepth)
		if len(s.text) <= api.MaxType {
			return s
		}
	}
}

func same(a, b []api.Item) bool { return slices.Equal(a, b) }
