package colour_test

import (
	"fmt"
	"math"
	"testing"

	"cyclorama/api"
	"cyclorama/colour"
)

func TestCheck(t *testing.T) {
	for _, c := range colours() {
		same(t, fmt.Sprint("Check ", c), colour.Check(c), api.OK)
	}
	for _, c := range badColours() {
		same(t, fmt.Sprint("Check ", c), colour.Check(c), api.ErrRange)
	}
}

// TestColoursComeFirst gives all functions with colours wrong ones, beside what is wrong in another way.
func TestColoursComeFirst(t *testing.T) {
	none, right := api.Colour{}, rgb(1, 2, 3)
	for _, bad := range badColours() {
		same(t, "ToneOf", results(colour.ToneOf(bad)), results(api.Tone{}, api.ErrRange))
		same(t, "Show", results(colour.Show(bad)), results("", api.ErrRange))
		for _, pair := range [][2]api.Colour{{bad, right}, {right, bad}, {bad, bad}} {
			a, b := pair[0], pair[1]
			same(t, "Filter", results(colour.Filter(a, b)), results(none, api.ErrRange))
			same(t, "Distance", results(colour.Distance(a, b)), results(0, api.ErrRange))
			for _, way := range []int{0, api.WayStraight, api.WayShort, api.WayLong, 4} {
				same(t, "Between", results(colour.Between(a, b, way, 1, 2)), results(none, api.ErrRange))
				same(t, "Between", results(colour.Between(a, b, way, 0, 2)), results(none, api.ErrRange))
				same(t, "Between", results(colour.Between(a, b, way, 2, 2)), results(none, api.ErrRange))
			}
		}
	}
}

func TestFilter(t *testing.T) {
	scale := func(a, b int) int { return rounded(rat(a*b, 65535)) }
	random := newChance(1)
	for _, a := range colours() {
		b := random.colour()
		want := rgb(scale(a.Red, b.Red), scale(a.Green, b.Green), scale(a.Blue, b.Blue))
		same(t, fmt.Sprint("Filter ", a, b), results(colour.Filter(a, b)), results(want, api.OK))
		same(t, fmt.Sprint("Filter ", b, a), results(colour.Filter(b, a)), results(want, api.OK))
		same(t, "Filter without a filter", results(colour.Filter(a, rgb(api.Full, api.Full, api.Full))), results(a, api.OK))
		same(t, "Filter of nothing", results(colour.Filter(a, api.Colour{})), results(api.Colour{}, api.OK))
	}
	same(t, "Filter", results(colour.Filter(rgb(1, 2, 3), rgb(32767, 32768, 32768))), results(rgb(0, 1, 2), api.OK))
}

func TestDistance(t *testing.T) {
	random := newChance(2)
	for range 2000 {
		a, b := random.colour(), random.colour()
		same(t, fmt.Sprint("Distance ", a, b), results(colour.Distance(a, b)), results(distance(a, b), api.OK))
		same(t, "Distance of one", results(colour.Distance(a, a)), results(0, api.OK))
	}
	for _, c := range []struct {
		a, b api.Colour
		want int
	}{
		{rgb(5, 0, 0), rgb(2, 0, 0), 18},
		{rgb(0, 5, 0), rgb(0, 8, 0), 36},
		{rgb(0, 0, 5), rgb(0, 0, 2), 27},
		{rgb(0, 0, 0), rgb(65535, 65535, 65535), 38653526025},
	} {
		same(t, fmt.Sprint("Distance ", c.a, c.b), results(colour.Distance(c.a, c.b)), results(c.want, api.OK))
	}
}

// TestExtremes gives the functions numbers that sums and products could overflow with.
func TestExtremes(t *testing.T) {
	numbers := []int{math.MinInt, math.MinInt + 1, math.MinInt / 65535, -1, math.MaxInt / 65535, math.MaxInt - 1, math.MaxInt}
	white := []api.Emitter{{Name: "white", Colour: rgb(65535, 65535, 65535)}}
	for _, n := range numbers {
		same(t, "FromTone", results(colour.FromTone(api.Tone{Hue: n})), results(api.Colour{}, api.ErrRange))
		same(t, "Between", results(colour.Between(rgb(1, 2, 3), rgb(3, 2, 1), n, 1, 2)), results(api.Colour{}, api.ErrKind))
		for way := api.WayStraight; way <= api.WayLong; way++ {
			same(t, "Between", results(colour.Between(rgb(1, 2, 3), rgb(3, 2, 1), way, n, n)), results(api.Colour{}, api.ErrRange))
		}
		same(t, "CheckBook", colour.CheckBook([]api.Gel{{Number: n, Name: "a"}}), api.ErrRange)
		same(t, "Nearest", results(colour.Nearest(nil, api.Colour{}, n)), results([]api.Gel{}, api.ErrRange))
		same(t, "Given", results(colour.Given(white, []int{n})), results(api.Colour{}, api.ErrRange))
	}
}
