package effect_test

import (
	"fmt"
	"math"
	"testing"

	"cyclorama/api"
	"cyclorama/effect"
)

// manySteps are n steps of a millisecond.
func manySteps(n int) api.Effect {
	e := api.Effect{Form: api.FormSteps}
	for range n {
		e.Steps = append(e.Steps, api.EffectStep{Hold: 1})
	}
	return e
}

// oneStep is an effect with one step.
func oneStep(level, hold, fade int) api.Effect {
	return api.Effect{Form: api.FormSteps, Steps: []api.EffectStep{{Level: level, Hold: hold, Fade: fade}}}
}

// TestRightEffects has effects at the limits of all fields (E1).
func TestRightEffects(t *testing.T) {
	l := []api.Effect{steps(), manySteps(1), manySteps(api.MaxEffectSteps), oneStep(0, 0, 1), oneStep(api.Full, 1, 0), oneStep(0, api.MaxCycle, 0), oneStep(0, 0, api.MaxCycle)}
	for form := api.FormTriangle; form <= api.FormChance; form++ {
		e := triangle()
		e.Form = form
		l = append(l, e)
	}
	for _, change := range []func(e *api.Effect){
		func(e *api.Effect) { e.Width = 0 },
		func(e *api.Effect) { e.Width = api.MaxPart },
		func(e *api.Effect) { e.Low, e.High = 0, 0 },
		func(e *api.Effect) { e.Low = api.Full },
		func(e *api.Effect) { e.Cycle = 1 },
		func(e *api.Effect) { e.Cycle = api.MaxCycle },
		func(e *api.Effect) { e.Spread = -10000 },
		func(e *api.Effect) { e.Spread = 10000 },
		func(e *api.Effect) { e.Back, e.Relative = true, true },
		func(e *api.Effect) { e.Steps = []api.EffectStep{} },
	} {
		l = append(l, with(square(), change))
	}
	l = append(l, with(steps(), func(e *api.Effect) { e.Back, e.Relative, e.Spread = true, true, -10000 }))
	for _, e := range l {
		same(t, fmt.Sprintf("Check(%+v)", e), effect.Check(e), api.OK)
	}
}

type wrong struct {
	name string
	e    api.Effect
	want api.Fault
}

// wrongEffects are effects with one fault, and such that tell which one of two faults comes first.
func wrongEffects() []wrong {
	form := func(n int) api.Effect { return with(triangle(), func(e *api.Effect) { e.Form = n }) }
	two := func(a, b api.EffectStep) api.Effect {
		return api.Effect{Form: api.FormSteps, Steps: []api.EffectStep{a, b}}
	}
	l := []wrong{
		{"no form", api.Effect{}, api.ErrKind},
		{"the form 0", form(0), api.ErrKind},
		{"the form -1", form(-1), api.ErrKind},
		{"the form 8", form(8), api.ErrKind},
		{"the least form", form(math.MinInt), api.ErrKind},
		{"the kind ahead of the form", api.Effect{Form: 8, Width: 1, Low: -1, Steps: make([]api.EffectStep, 1)}, api.ErrKind},
		{"a cycle of steps", with(steps(), func(e *api.Effect) { e.Cycle = 200 }), api.ErrForm},
		{"a cycle of steps that is wrong", with(steps(), func(e *api.Effect) { e.Cycle = -1 }), api.ErrForm},
		{"a width of steps", with(steps(), func(e *api.Effect) { e.Width = 1 }), api.ErrForm},
		{"the form ahead of levels", with(triangle(), func(e *api.Effect) { e.Width, e.Low = 1, -1 }), api.ErrForm},
		{"the form ahead of the cycle", with(triangle(), func(e *api.Effect) { e.Width, e.Cycle = -1, 0 }), api.ErrForm},
		{"the form ahead of no steps", api.Effect{Form: api.FormSteps, Cycle: 1}, api.ErrForm},
		{"levels ahead of no steps", api.Effect{Form: api.FormSteps, Low: 1}, api.ErrRange},
		{"levels of steps", with(steps(), func(e *api.Effect) { e.High = api.Full + 1 }), api.ErrRange},
		{"the spread ahead of no steps", api.Effect{Form: api.FormSteps, Spread: 10001}, api.ErrRange},
		{"the spread of steps", with(steps(), func(e *api.Effect) { e.Spread = -10001 }), api.ErrRange},
		{"no steps", api.Effect{Form: api.FormSteps}, api.ErrNone},
		{"no steps, but a list of them", api.Effect{Form: api.FormSteps, Steps: []api.EffectStep{}}, api.ErrNone},
		{"51 steps", manySteps(51), api.ErrLarge},
		{"51 wrong steps", with(manySteps(51), func(e *api.Effect) { e.Steps[0].Hold = -1 }), api.ErrLarge},
		{"a step below 0", oneStep(-1, 1, 1), api.ErrRange},
		{"a step above full", oneStep(api.Full+1, 1, 1), api.ErrRange},
		{"a hold below 0", oneStep(1, -1, 2), api.ErrRange},
		{"a hold that is too long", oneStep(1, api.MaxCycle+1, 0), api.ErrRange},
		{"the longest hold and another one", two(api.EffectStep{Hold: math.MaxInt}, api.EffectStep{Hold: math.MaxInt}), api.ErrRange},
		{"a fade below 0", oneStep(1, 2, -1), api.ErrRange},
		{"a fade that is too long", oneStep(1, 0, api.MaxCycle+1), api.ErrRange},
		{"a second step that is wrong", two(api.EffectStep{Hold: 2}, api.EffectStep{Hold: -1}), api.ErrRange},
		{"a sum of 0", two(api.EffectStep{}, api.EffectStep{Level: 1}), api.ErrRange},
		{"a sum that is too great", two(api.EffectStep{Hold: api.MaxCycle}, api.EffectStep{Fade: 1}), api.ErrRange},
		{"a step with a sum that is too great", oneStep(0, api.MaxCycle, 1), api.ErrRange},
	}
	for form := api.FormTriangle; form <= api.FormChance; form++ {
		e := triangle()
		e.Form = form
		l = append(l, wrong{fmt.Sprint("steps of the form ", form), with(e, func(e *api.Effect) { e.Steps = steps().Steps }), api.ErrForm})
		if form != api.FormSquare {
			l = append(l, wrong{fmt.Sprint("a width of the form ", form), with(e, func(e *api.Effect) { e.Width = 1 }), api.ErrForm})
		}
		for _, n := range []int{math.MinInt, -1, 0, api.MaxCycle + 1, math.MaxInt} {
			l = append(l, wrong{fmt.Sprint("the cycle ", n, " of the form ", form), with(e, func(e *api.Effect) { e.Cycle = n }), api.ErrRange})
		}
		l = append(l,
			wrong{fmt.Sprint("Low of the form ", form), with(e, func(e *api.Effect) { e.Low = -1 }), api.ErrRange},
			wrong{fmt.Sprint("High of the form ", form), with(e, func(e *api.Effect) { e.High = api.Full + 1 }), api.ErrRange},
			wrong{fmt.Sprint("Low above High of the form ", form), with(e, func(e *api.Effect) { e.Low, e.High = 8, 7 }), api.ErrRange},
			wrong{fmt.Sprint("both above full of the form ", form), with(e, func(e *api.Effect) { e.Low, e.High = api.Full+1, api.Full+2 }), api.ErrRange},
			wrong{fmt.Sprint("the spread of the form ", form), with(e, func(e *api.Effect) { e.Spread = 10001 }), api.ErrRange},
			wrong{fmt.Sprint("the least spread of the form ", form), with(e, func(e *api.Effect) { e.Spread = math.MinInt }), api.ErrRange},
		)
	}
	for _, n := range []int{math.MinInt, -1, api.MaxPart + 1, math.MaxInt} {
		l = append(l, wrong{fmt.Sprint("the width ", n), with(square(), func(e *api.Effect) { e.Width = n }), api.ErrRange})
	}
	return l
}

// TestWrongEffects looks at all functions with an effect, which have its fault ahead of their own ones (E1).
func TestWrongEffects(t *testing.T) {
	for _, w := range wrongEffects() {
		same(t, "Check: "+w.name, effect.Check(w.e), w.want)
		same(t, "Text: "+w.name, results(effect.Text(w.e)), results("", w.want))
		same(t, "Way: "+w.name, results(effect.Way(w.e, 0, 1, 0)), results(0, w.want))
		same(t, "Way of nothing: "+w.name, results(effect.Way(w.e, -1, 0, -1)), results(0, w.want))
		same(t, "Period: "+w.name, results(effect.Period(w.e)), results(0, w.want))
		x := run()
		x.Effect = w.e
		y := api.Running{Effect: w.e, Start: -1, End: -2}
		for _, x := range []api.Running{x, y} {
			same(t, "CheckRunning: "+w.name, effect.CheckRunning(stage(), x), w.want)
			same(t, "Clock: "+w.name, results(effect.Clock(x, -1)), results(0, w.want))
			same(t, "Settings: "+w.name, results(effect.Settings(stage(), x, []api.Setting{{}}, -1)), none[[]api.Setting](w.want))
			same(t, "Apply: "+w.name, results(effect.Apply(stage(), []api.Running{x}, []api.Setting{{}}, -1)), none[[]api.Setting](w.want))
			same(t, "Faster: "+w.name, results(effect.Faster(x, -1, -1)), none[api.Running](w.want))
			same(t, "Stop: "+w.name, results(effect.Stop(x, -1, -1)), none[api.Running](w.want))
		}
	}
}

// TestPeriod has the cycles of all forms (E6).
func TestPeriod(t *testing.T) {
	for form := api.FormTriangle; form <= api.FormSoft; form++ {
		e := triangle()
		e.Form, e.Cycle = form, 1000+form
		same(t, fmt.Sprint("Period of the form ", form), results(effect.Period(e)), results(1000+form, api.OK))
	}
	same(t, "Period of steps", results(effect.Period(steps())), results(200, api.OK))
	same(t, "Period of one step", results(effect.Period(oneStep(5, 3, 4))), results(7, api.OK))
	same(t, "Period of the longest steps", results(effect.Period(oneStep(5, 1, api.MaxCycle-1))), results(api.MaxCycle, api.OK))
	chance := with(triangle(), func(e *api.Effect) { e.Form = api.FormChance })
	same(t, "Period of chance", results(effect.Period(chance)), results(0, api.ErrKind))
	same(t, "Period of a wrong chance", results(effect.Period(with(chance, func(e *api.Effect) { e.Cycle = 0 }))), results(0, api.ErrRange))
}
