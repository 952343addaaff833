package colour_test

import (
	"slices"
	"testing"

	"cyclorama/api"
	"cyclorama/colour"
)

// untouched runs a call on a list with room for more, and looks whether all of it stays as it is, also when the results are overwritten.
func untouched[A comparable, R any](t *testing.T, name string, l []A, call func(l []A) []R) {
	t.Helper()
	argument := roomy(l)
	before := slices.Clone(argument[:cap(argument)])
	first, second := call(argument), call(argument)
	clear(first[:cap(first)])
	if !slices.Equal(argument[:cap(argument)], before) {
		t.Errorf("%s: an argument was changed", name)
	}
	same(t, name+": the second result", second, call(l))
}

func TestMemory(t *testing.T) {
	book := []api.Gel{gel(4, "Red", rgb(65535, 0, 0)), gel(9, "Deep green", rgb(0, 65535, 0)), gel(12, "Blue", rgb(0, 0, 65535))}
	text := "4 #ff0000 Red\n9 #00ff00 Deep green\n"
	emitters := []api.Emitter{emitter("white", rgb(65535, 65535, 65535)), emitter("red", rgb(65535, 0, 0))}
	untouched(t, "CheckBook", book, func(l []api.Gel) []api.Fault { return []api.Fault{colour.CheckBook(l)} })
	untouched(t, "BookText", book, func(l []api.Gel) []string {
		text, _ := colour.BookText(l)
		return []string{text}
	})
	for n := range 5 {
		untouched(t, "Nearest", book, func(l []api.Gel) []api.Gel {
			near, _ := colour.Nearest(l, rgb(0, 0, 9), n)
			return near
		})
	}
	untouched(t, "ReadBook", []string{text}, func(l []string) []api.Gel {
		book, _, _ := colour.ReadBook(l[0])
		return book
	})
	untouched(t, "CheckEmitters", emitters, func(l []api.Emitter) []api.Fault { return []api.Fault{colour.CheckEmitters(l)} })
	untouched(t, "Given", emitters, func(l []api.Emitter) []api.Colour {
		c, _ := colour.Given(l, []int{5, 6})
		return []api.Colour{c}
	})
	untouched(t, "Given", []int{5, 6}, func(levels []int) []api.Colour {
		c, _ := colour.Given(emitters, levels)
		return []api.Colour{c}
	})
	untouched(t, "Drive", emitters, func(l []api.Emitter) []int {
		levels, _, _ := colour.Drive(l, rgb(3000, 1000, 1000))
		return levels
	})
}
