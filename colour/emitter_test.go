package colour_test

import (
	"fmt"
	"strings"
	"testing"

	"cyclorama/api"
	"cyclorama/colour"
)

func emitter(name string, c api.Colour) api.Emitter { return api.Emitter{Name: name, Colour: c} }

// emitters returns up to MaxEmitters of them; some components are 0, but not all of one.
func (c chance) emitters() []api.Emitter {
	var l []api.Emitter
	for range 1 + c.IntN(api.MaxEmitters) {
		e := emitter(fmt.Sprint("e-", len(l)), c.colour())
		if e.Colour == (api.Colour{}) {
			e.Colour.Green = 1
		}
		l = append(l, e)
	}
	return l
}

func (c chance) levels(n int) []int {
	l := make([]int, n)
	for i := range l {
		l[i] = c.level()
	}
	return l
}

type badEmitters struct {
	name string
	l    []api.Emitter
	want api.Fault
}

func wrongEmitters() []badEmitters {
	right := emitter("red", rgb(65535, 0, 0))
	wrong := emitter("", rgb(-1, 0, 0))
	many := make([]api.Emitter, api.MaxEmitters+1)
	var tooMany []api.Emitter
	for i := range api.MaxEmitters + 1 {
		tooMany = append(tooMany, emitter(fmt.Sprint("e", i), rgb(1, 1, 1)))
	}
	l := []badEmitters{
		{"none", nil, api.ErrNone},
		{"none", []api.Emitter{}, api.ErrNone},
		{"too many, and all wrong", many, api.ErrLarge},
		{"one too many", tooMany, api.ErrLarge},
		{"a name twice", []api.Emitter{right, emitter("blue", rgb(0, 0, 1)), emitter("red", rgb(-1, 0, 0))}, api.ErrTwice},
		{"a name twice, ahead of nothing", []api.Emitter{right, emitter("red", rgb(0, 0, 0))}, api.ErrTwice},
		{"it gives nothing", []api.Emitter{right, emitter("blue", rgb(0, 0, 0)), wrong}, api.ErrNone},
		{"each one for itself: a colour", []api.Emitter{right, emitter("blue", rgb(0, 0, -1)), wrong}, api.ErrRange},
		{"each one for itself: a name", []api.Emitter{right, emitter("Blue", rgb(0, 0, 1)), emitter("red", rgb(-1, 0, 0))}, api.ErrName},
		{"each one for itself: twice", []api.Emitter{right, right, wrong}, api.ErrTwice},
	}
	for _, name := range []string{"", "Red", "1red", "-red", "red ", "re d", "réd", "red\n", strings.Repeat("a", api.MaxName+1)} {
		l = append(l, badEmitters{fmt.Sprintf("the name %q", name), []api.Emitter{right, emitter(name, rgb(-1, 0, 0))}, api.ErrName})
	}
	for _, c := range badColours() {
		l = append(l, badEmitters{fmt.Sprint("the colour ", c), []api.Emitter{right, emitter("x", c)}, api.ErrRange})
	}
	return l
}

func TestCheckEmitters(t *testing.T) {
	random := newChance(10)
	for range 200 {
		same(t, "CheckEmitters", colour.CheckEmitters(random.emitters()), api.OK)
	}
	long := strings.Repeat("a", api.MaxName)
	for _, c := range []api.Colour{rgb(1, 0, 0), rgb(0, 1, 0), rgb(0, 0, 1), rgb(65535, 65535, 65535)} {
		same(t, "CheckEmitters", colour.CheckEmitters([]api.Emitter{emitter(long, c), emitter("a", c)}), api.OK)
	}
	most := wrongEmitters()[3].l[:api.MaxEmitters]
	same(t, "CheckEmitters of the most", colour.CheckEmitters(most), api.OK)
	for _, b := range wrongEmitters() {
		same(t, "CheckEmitters: "+b.name, colour.CheckEmitters(b.l), b.want)
	}
}

func TestEmittersComeFirst(t *testing.T) {
	for _, b := range wrongEmitters() {
		same(t, "Given: "+b.name, results(colour.Given(b.l, []int{-1})), results(api.Colour{}, b.want))
		same(t, "Given: "+b.name, results(colour.Given(b.l, make([]int, len(b.l)))), results(api.Colour{}, b.want))
		same(t, "Drive: "+b.name, results(colour.Drive(b.l, rgb(-1, 0, 0))), results([]int{}, api.Colour{}, b.want))
		same(t, "Drive: "+b.name, results(colour.Drive(b.l, rgb(1, 2, 3))), results([]int{}, api.Colour{}, b.want))
	}
}

func TestGiven(t *testing.T) {
	random := newChance(11)
	for range 3000 {
		l := random.emitters()
		levels := random.levels(len(l))
		same(t, fmt.Sprint("Given ", l, levels), results(colour.Given(l, levels)), results(given(l, levels), api.OK))
	}
	l := []api.Emitter{emitter("white", rgb(65535, 65535, 65535)), emitter("dim", rgb(1, 2, 3))}
	for _, c := range []struct {
		levels []int
		want   api.Colour
	}{
		{[]int{0, 0}, rgb(0, 0, 0)},
		{[]int{65535, 0}, rgb(65535, 65535, 65535)},
		{[]int{65535, 65535}, rgb(65535, 65535, 65535)},
		{[]int{100, 32767}, rgb(100, 101, 101)},
		{[]int{100, 32768}, rgb(101, 101, 102)},
		{[]int{65534, 65535}, rgb(65535, 65535, 65535)},
		{[]int{65532, 65535}, rgb(65533, 65534, 65535)},
	} {
		same(t, fmt.Sprint("Given ", c.levels), results(colour.Given(l, c.levels)), results(c.want, api.OK))
	}
	// What emitters give is rounded together, not one by one.
	thirds := []api.Emitter{emitter("a", rgb(1, 0, 0)), emitter("b", rgb(1, 0, 0)), emitter("c", rgb(1, 0, 0))}
	same(t, "Given", results(colour.Given(thirds, []int{21845, 21845, 21845})), results(rgb(1, 0, 0), api.OK))
}

func TestGivenErrors(t *testing.T) {
	l := []api.Emitter{emitter("red", rgb(65535, 0, 0)), emitter("blue", rgb(0, 0, 65535))}
	for _, levels := range [][]int{nil, {}, {5}, {5, 5, 5}, {-1}, {-1, 5, 5}} {
		same(t, fmt.Sprint("Given ", levels), results(colour.Given(l, levels)), results(api.Colour{}, api.ErrForm))
	}
	for _, n := range notLevels {
		for _, levels := range [][]int{{n, 5}, {5, n}, {n, n}} {
			same(t, fmt.Sprint("Given ", levels), results(colour.Given(l, levels)), results(api.Colour{}, api.ErrRange))
		}
	}
}

// checkDrive looks whether each level is the greatest one with which the emitters so far do not give too much.
func checkDrive(t *testing.T, l []api.Emitter, c api.Colour) {
	t.Helper()
	levels, gives, fault := colour.Drive(l, c)
	name := fmt.Sprint("Drive ", l, c)
	same(t, name, results(gives, fault), results(given(l, levels), api.OK))
	if len(levels) != len(l) {
		t.Fatalf("%s: got %d levels", name, len(levels))
	}
	fits := func(levels []int) bool {
		most := components(c)
		for i, n := range sums(l[:len(levels)], levels) {
			if n > 65535*most[i] {
				return false
			}
		}
		return true
	}
	for i, n := range levels {
		more := append(append([]int(nil), levels[:i]...), n+1)
		if n < 0 || n > 65535 || !fits(levels[:i+1]) || n < 65535 && fits(more) {
			t.Errorf("%s: got %v, in which element %d is wrong", name, levels, i)
		}
	}
	if gives.Red > c.Red || gives.Green > c.Green || gives.Blue > c.Blue {
		t.Errorf("%s: %v is more", name, gives)
	}
}

func TestDrive(t *testing.T) {
	random := newChance(12)
	for range 3000 {
		checkDrive(t, random.emitters(), random.colour())
	}
	red, green, white := emitter("red", rgb(65535, 0, 0)), emitter("green", rgb(0, 65535, 0)), emitter("white", rgb(65535, 65535, 65535))
	amber, weak := emitter("amber", rgb(65535, 32768, 0)), emitter("weak", rgb(0, 0, 100))
	for _, c := range []struct {
		l      []api.Emitter
		c      api.Colour
		levels []int
		gives  api.Colour
	}{
		{[]api.Emitter{white, red}, rgb(3000, 1000, 1000), []int{1000, 2000}, rgb(3000, 1000, 1000)},
		{[]api.Emitter{red, white}, rgb(3000, 1000, 1000), []int{3000, 0}, rgb(3000, 0, 0)},
		{[]api.Emitter{white, red, green}, rgb(0, 0, 0), []int{0, 0, 0}, rgb(0, 0, 0)},
		{[]api.Emitter{red, green, white}, rgb(65535, 65535, 65535), []int{65535, 65535, 0}, rgb(65535, 65535, 0)},
		{[]api.Emitter{amber, red, green}, rgb(1000, 400, 7), []int{799, 201, 0}, rgb(1000, 400, 0)},
		{[]api.Emitter{weak}, rgb(5, 5, 65535), []int{65535}, rgb(0, 0, 100)},
		{[]api.Emitter{weak}, rgb(5, 5, 50), []int{32767}, rgb(0, 0, 50)},
	} {
		same(t, fmt.Sprint("Drive ", c.l, c.c), results(colour.Drive(c.l, c.c)), results(c.levels, c.gives, api.OK))
		checkDrive(t, c.l, c.c)
	}
}

func TestDriveErrors(t *testing.T) {
	for _, c := range badColours() {
		l := []api.Emitter{emitter("red", rgb(65535, 0, 0))}
		same(t, fmt.Sprint("Drive ", c), results(colour.Drive(l, c)), results([]int{}, api.Colour{}, api.ErrRange))
	}
}
