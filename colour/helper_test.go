package colour_test

import (
	"fmt"
	"math"
	"math/rand/v2"
	"strings"
	"testing"

	"cyclorama/api"
)

// same says what two results are, if they differ as they are printed (an empty list is the same as nil).
func same(t *testing.T, name string, got, want any) {
	t.Helper()
	if g, w := fmt.Sprintf("%+v", got), fmt.Sprintf("%+v", want); g != w {
		t.Errorf("%s: got %s, want %s", name, g, w)
	}
}

type list []any

// String has each value twice: in quotes it shows where texts end, but not which number it is, if that is no rune.
func (l list) String() string {
	var s []string
	for _, x := range l {
		s = append(s, fmt.Sprintf("%+v %+q", x, x))
	}
	return strings.Join(s, " ")
}

// results makes one value of the results of a call.
func results(l ...any) list { return l }

func rgb(red, green, blue int) api.Colour {
	return api.Colour{Red: red, Green: green, Blue: blue}
}

// samples are levels at and around places where a rounding could go wrong.
var samples = []int{0, 1, 2, 3, 5, 256, 257, 258, 21845, 32767, 32768, 65534, api.Full}

// notLevels are numbers that no component can have.
var notLevels = []int{-1, api.Full + 1, math.MinInt, math.MaxInt}

func colours() []api.Colour {
	var l []api.Colour
	for _, red := range samples {
		for _, green := range samples {
			for _, blue := range samples {
				l = append(l, rgb(red, green, blue))
			}
		}
	}
	return l
}

func badColours() []api.Colour {
	var l []api.Colour
	for _, n := range notLevels {
		l = append(l, rgb(n, 0, api.Full), rgb(api.Full, n, 0), rgb(0, api.Full, n), rgb(n, n, n))
	}
	return l
}

// chance makes things at random, which are the same ones each time.
type chance struct{ *rand.Rand }

func newChance(seed uint64) chance { return chance{rand.New(rand.NewPCG(seed, 1))} }

// level returns any level, or one of the samples.
func (c chance) level() int {
	if c.IntN(3) == 0 {
		return samples[c.IntN(len(samples))]
	}
	return c.IntN(api.Full + 1)
}

func (c chance) colour() api.Colour { return rgb(c.level(), c.level(), c.level()) }

// roomy returns a copy of a list with room for more, in which there is something that nobody may touch.
func roomy[T any](l []T) []T {
	return append(append(make([]T, 0, len(l)+3), l...), l[0], l[0])[:len(l)]
}
