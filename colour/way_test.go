package colour_test

import (
	"fmt"
	"math"
	"testing"

	"cyclorama/api"
	"cyclorama/colour"
)

var ways = []int{api.WayStraight, api.WayShort, api.WayLong}

// parts are parts of wholes, the ends among them.
var parts = [][2]int{
	{0, 1}, {1, 1}, {1, 2}, {1, 3}, {2, 3}, {0, 7}, {7, 7}, {999, 1000},
	{0, api.MaxTime}, {1, api.MaxTime}, {api.MaxTime/2 + 1, api.MaxTime}, {api.MaxTime - 1, api.MaxTime}, {api.MaxTime, api.MaxTime},
}

func checkBetween(t *testing.T, a, b api.Colour, way, part, whole int) {
	t.Helper()
	name := fmt.Sprint("Between ", a, b, " way ", way, ": ", part, "/", whole)
	same(t, name, results(colour.Between(a, b, way, part, whole)), results(between(a, b, way, part, whole), api.OK))
}

func TestBetween(t *testing.T) {
	random := newChance(5)
	for range 700 {
		a, b := random.colour(), random.colour()
		for _, way := range ways {
			for _, p := range parts {
				checkBetween(t, a, b, way, p[0], p[1])
			}
			whole := 1 + random.IntN(1000)
			checkBetween(t, a, b, way, random.IntN(whole+1), whole)
		}
	}
}

// TestHalfTurns goes between colours whose hues are opposite to one another, or nearly.
func TestHalfTurns(t *testing.T) {
	full := func(hue int) api.Colour {
		c, _ := colour.FromTone(api.Tone{Hue: (hue + 6*65535) % (6 * 65535), Saturation: api.Full, Value: api.Full})
		return c
	}
	for hue := 0; hue < 6*65535; hue += 6553 {
		for _, turn := range []int{-3*65535 - 1, -3 * 65535, -3*65535 + 1, -1, 0, 1, 3*65535 - 1} {
			for _, way := range ways {
				for _, p := range parts {
					checkBetween(t, full(hue), full(hue+turn), way, p[0], p[1])
				}
			}
		}
	}
}

func TestBetweenGreys(t *testing.T) {
	greys := []api.Colour{rgb(0, 0, 0), rgb(1, 1, 1), rgb(1000, 1000, 1000), rgb(65535, 65535, 65535)}
	for _, grey := range greys {
		for _, c := range append(colours(), greys...) {
			for _, way := range ways {
				checkBetween(t, grey, c, way, 1, 3)
				checkBetween(t, c, grey, way, 1, 3)
			}
		}
	}
}

func TestBetweenPlainColours(t *testing.T) {
	red, green, blue, cyan := rgb(65535, 0, 0), rgb(0, 65535, 0), rgb(0, 0, 65535), rgb(0, 65535, 65535)
	black, white := rgb(0, 0, 0), rgb(65535, 65535, 65535)
	for _, c := range []struct {
		a, b             api.Colour
		way, part, whole int
		red, green, blue int
	}{
		{red, green, api.WayStraight, 1, 4, 49151, 16384, 0},
		{red, green, api.WayShort, 1, 2, 65535, 65535, 0},
		{red, green, api.WayLong, 1, 2, 0, 0, 65535},
		{green, red, api.WayShort, 1, 2, 65535, 65535, 0},
		{green, red, api.WayLong, 1, 2, 0, 0, 65535},
		{red, blue, api.WayShort, 1, 2, 65535, 0, 65535},
		{red, blue, api.WayLong, 1, 2, 0, 65535, 0},
		{red, cyan, api.WayShort, 1, 3, 65535, 65535, 0},
		{red, cyan, api.WayLong, 1, 3, 65535, 0, 65535},
		{cyan, red, api.WayShort, 1, 3, 0, 0, 65535},
		{cyan, red, api.WayLong, 1, 3, 0, 65535, 0},
		{green, green, api.WayLong, 1, 2, 0, 65535, 0},
		{blue, white, api.WayShort, 1, 2, 32767, 32767, 65535},
		{white, blue, api.WayLong, 1, 2, 32767, 32767, 65535},
		{black, blue, api.WayLong, 1, 2, 16384, 16384, 32768},
		{black, white, api.WayShort, 1, 2, 32768, 32768, 32768},
	} {
		want := rgb(c.red, c.green, c.blue)
		name := fmt.Sprint("Between ", c.a, c.b, " way ", c.way, ": ", c.part, "/", c.whole)
		same(t, name, results(colour.Between(c.a, c.b, c.way, c.part, c.whole)), results(want, api.OK))
	}
}

// offTone returns a colour which is not that of its tone.
func (c chance) offTone() api.Colour {
	for {
		l := []int{60000 + c.IntN(5000), c.IntN(20000), c.IntN(20000)}
		c.Shuffle(3, func(i, j int) { l[i], l[j] = l[j], l[i] })
		if off := rgb(l[0], l[1], l[2]); fromTone(toneOf(off)) != off {
			return off
		}
	}
}

func TestEnds(t *testing.T) {
	random := newChance(6)
	for range 300 {
		a, b := random.offTone(), random.offTone()
		for _, way := range ways {
			for _, whole := range []int{1, 5, api.MaxTime} {
				same(t, fmt.Sprint("Between at the begin ", way), results(colour.Between(a, b, way, 0, whole)), results(a, api.OK))
				same(t, fmt.Sprint("Between at the end ", way), results(colour.Between(a, b, way, whole, whole)), results(b, api.OK))
			}
		}
	}
}

func TestBetweenErrors(t *testing.T) {
	a, b := rgb(1, 2, 3), rgb(65535, 5, 6)
	wrong := [][2]int{{0, 0}, {0, -1}, {-1, -1}, {1, 0}, {0, api.MaxTime + 1}, {api.MaxTime + 1, api.MaxTime + 1}, {1, api.MaxTime + 1}, {-1, 1}, {2, 1}, {-1, api.MaxTime}, {api.MaxTime + 1, api.MaxTime}, {math.MinInt, 5}, {math.MaxInt, 5}}
	for _, p := range wrong {
		for _, way := range ways {
			same(t, fmt.Sprint("Between ", way, p), results(colour.Between(a, b, way, p[0], p[1])), results(api.Colour{}, api.ErrRange))
		}
	}
	for _, way := range []int{math.MinInt, -1, 0, 4, 5, math.MaxInt} {
		for _, p := range append(wrong, parts...) {
			same(t, fmt.Sprint("Between ", way, p), results(colour.Between(a, b, way, p[0], p[1])), results(api.Colour{}, api.ErrKind))
		}
	}
}
