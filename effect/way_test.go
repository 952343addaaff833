package effect_test

import (
	"fmt"
	"math"
	"testing"

	"cyclorama/api"
	"cyclorama/effect"
)

// wave is an effect of a form with a cycle of 1000 ms.
func wave(form int) api.Effect {
	return with(triangle(), func(e *api.Effect) { e.Form = form })
}

// backwards is an effect that goes back.
func backwards(e api.Effect) api.Effect {
	return with(e, func(e *api.Effect) { e.Back = true })
}

// spread is an effect whose units are apart.
func spread(e api.Effect, n int) api.Effect {
	return with(e, func(e *api.Effect) { e.Spread = n })
}

// wide is a square of a width.
func wide(n int) api.Effect { return with(square(), func(e *api.Effect) { e.Width = n }) }

// jumps has a step that is only faded to, and then left at once.
func jumps() api.Effect {
	return api.Effect{Form: api.FormSteps, High: api.Full, Steps: []api.EffectStep{{Level: api.Full, Hold: 10, Fade: 10}, {Level: 30000}, {Level: 0, Hold: 10, Fade: 10}, {Level: 50000}}}
}

// TestWays has the ways of all forms at clocks (E3).
func TestWays(t *testing.T) {
	for _, c := range []struct {
		name  string
		e     api.Effect
		pairs []int // clocks, and ways
	}{
		{"triangle", triangle(), []int{0, 0, 1, 1, 12500, 16384, 25000, 32768, 49999, 65534, 50000, 65535, 50001, 65534, 75000, 32768, 99999, 1, 100000, 0, 125000, 32768, 36000000000, 0}},
		{"up", wave(api.FormUp), []int{0, 0, 1, 1, 25000, 16384, 50000, 32768, 99999, 65534, 100000, 0, 100001, 1}},
		{"down", wave(api.FormDown), []int{0, 65535, 1, 65534, 25000, 49151, 50000, 32768, 99999, 1, 100000, 65535}},
		{"square", square(), []int{0, 65535, 24999, 65535, 25000, 0, 25001, 0, 99999, 0, 100000, 65535, 124999, 65535, 125000, 0}},
		{"narrow", wide(0), []int{0, 0, 1, 0, 50000, 0, 99999, 0, 100000, 0}},
		{"least", wide(1), []int{0, 65535, 99, 65535, 100, 0, 99999, 0}},
		{"whole", wide(1000), []int{0, 65535, 1, 65535, 50000, 65535, 99999, 65535, 100000, 65535}},
		{"soft", wave(api.FormSoft), []int{0, 0, 12500, 10240, 25000, 32768, 37500, 55295, 50000, 65535, 62500, 55295, 75000, 32768, 87500, 10240, 99999, 0, 100000, 0}},
		{"chance", wave(api.FormChance), []int{0, 14878, 1, 14878, 50000, 14878, 99999, 14878, 100000, 34016, 199999, 34016, 200000, 50981, 100000000, 17769}},
		{"steps", steps(), []int{0, 65535, 9999, 65535, 10000, 0, 14999, 0, 15000, 0, 16250, 16384, 17500, 32768, 19999, 65522, 20000, 65535, 30000, 0}},
		{"one step", oneStep(777, 10, 20), []int{0, 777, 999, 777, 1000, 777, 2000, 777, 2999, 777, 3000, 777}},
		{"one step that fades", oneStep(777, 0, 1), []int{0, 777, 50, 777}},
		{"steps that jump", jumps(), []int{0, 65535, 1000, 65535, 1500, 47768, 1999, 30036, 2000, 0, 2999, 0, 3000, 0, 3500, 25000, 3999, 49950, 4000, 65535}},
		{"triangle back", backwards(triangle()), []int{0, 0, 25000, 32768, 50000, 65535, 75000, 32768, 87500, 16384}},
		{"up back", backwards(wave(api.FormUp)), []int{0, 0, 1, 65534, 25000, 49151, 50000, 32768, 99999, 1, 100000, 0}},
		{"down back", backwards(wave(api.FormDown)), []int{0, 65535, 1, 1, 25000, 16384, 50000, 32768, 99999, 65534, 100000, 65535}},
		{"square back", backwards(square()), []int{0, 65535, 1, 0, 75000, 0, 75001, 65535, 99999, 65535, 100000, 65535}},
		{"chance back", backwards(wave(api.FormChance)), []int{0, 14878, 1, 14878, 99999, 14878, 100000, 34016, 199999, 34016}},
		{"steps back", backwards(steps()), []int{0, 65535, 1, 65522, 2500, 32768, 5000, 0, 10000, 0, 10001, 65535, 19999, 65535, 20000, 65535}},
	} {
		for i := 0; i < len(c.pairs); i += 2 {
			same(t, fmt.Sprint("Way of ", c.name, " at ", c.pairs[i]), results(effect.Way(c.e, 0, 1, c.pairs[i])), results(c.pairs[i+1], api.OK))
		}
	}
}

// TestUnits has the ways of units that are behind one another (E3).
func TestUnits(t *testing.T) {
	for _, c := range []struct {
		name                      string
		e                         api.Effect
		index, count, clock, want int
	}{
		{"without a spread", wave(api.FormUp), 3, 4, 25000, 16384},
		{"the first one", spread(wave(api.FormUp), 1000), 0, 2, 25000, 16384},
		{"half a cycle behind", spread(wave(api.FormUp), 1000), 1, 2, 50000, 0},
		{"half a cycle behind, at first", spread(wave(api.FormUp), 1000), 1, 2, 0, 32768},
		{"half a cycle behind, shortly later", spread(wave(api.FormUp), 1000), 1, 2, 49999, 65534},
		{"a third of a cycle behind", spread(wave(api.FormUp), 1000), 1, 3, 0, 43690},
		{"two thirds of a cycle behind", spread(wave(api.FormUp), 1000), 2, 3, 0, 21845},
		{"a quarter of a cycle ahead", spread(wave(api.FormUp), -500), 1, 2, 0, 16384},
		{"a quarter of a cycle ahead, later", spread(wave(api.FormUp), -500), 1, 2, 75000, 0},
		{"many cycles behind", spread(wave(api.FormUp), 10000), 3, 4, 0, 32768},
		{"a whole cycle behind", spread(wave(api.FormUp), 10000), 1, 10, 0, 0},
		{"behind and back", backwards(spread(wave(api.FormUp), 500)), 1, 2, 0, 16384},
		{"square behind", spread(square(), 500), 1, 2, 25000, 65535},
		{"square behind, just ahead of it", spread(square(), 500), 1, 2, 24999, 0},
		{"steps behind", spread(steps(), 500), 1, 2, 0, 0},
		{"steps behind, in a fade", spread(steps(), 250), 1, 2, 0, 32768},
		{"steps behind, at the first one", spread(steps(), 250), 1, 2, 2500, 65535},
		{"chance of another one", wave(api.FormChance), 1, 2, 0, 45175},
		{"chance of another one, which is behind", spread(wave(api.FormChance), 1000), 1, 2, 0, 53997},
		{"chance of another one, which was behind", spread(wave(api.FormChance), 1000), 1, 2, 50000, 45175},
		{"chance of the last one", wave(api.FormChance), 399, 400, 0, 40187},
		{"chance of the last one, ten cycles behind", spread(wave(api.FormChance), 10000), 399, 400, 0, 40791},
	} {
		same(t, "Way: "+c.name, results(effect.Way(c.e, c.index, c.count, c.clock)), results(c.want, api.OK))
	}
}

// TestWayFaults has wrong numbers (E3).
func TestWayFaults(t *testing.T) {
	for _, c := range []struct {
		index, count, clock int
		want                api.Fault
	}{
		{0, 1, 0, api.OK},
		{399, 400, 36000000000, api.OK},
		{0, 0, 0, api.ErrRange},
		{-1, 0, 0, api.ErrRange},
		{0, -1, 0, api.ErrRange},
		{0, math.MinInt, 0, api.ErrRange},
		{0, 401, 0, api.ErrRange},
		{400, 401, 0, api.ErrRange},
		{0, math.MaxInt, 0, api.ErrRange},
		{-1, 1, 0, api.ErrRange},
		{math.MinInt, 1, 0, api.ErrRange},
		{1, 1, 0, api.ErrRange},
		{400, 400, 0, api.ErrRange},
		{math.MaxInt, 400, 0, api.ErrRange},
		{0, 1, -1, api.ErrRange},
		{0, 1, math.MinInt, api.ErrRange},
		{0, 1, 36000000001, api.ErrRange},
		{0, 1, math.MaxInt, api.ErrRange},
	} {
		n, fault := effect.Way(wide(1000), c.index, c.count, c.clock)
		want := 0
		if c.want == api.OK {
			want = api.Full
		}
		same(t, fmt.Sprintf("Way of %+v", c), results(n, fault), results(want, c.want))
	}
}
