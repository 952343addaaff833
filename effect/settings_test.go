package effect_test

import (
	"fmt"
	"math"
	"testing"

	"cyclorama/api"
	"cyclorama/effect"
)

// moved is the level that a running effect on 1.dim alone gives at a time, with this level as base.
func moved(t *testing.T, x api.Running, base, time int) int {
	t.Helper()
	x.Keys = []api.Key{key(1, "dim")}
	l, fault := effect.Settings(stage(), x, []api.Setting{setting(1, "dim", base)}, time)
	if len(l) != 1 || l[0].Key != key(1, "dim") || fault != api.OK {
		t.Fatalf("Settings of %+v at %d: %v %d", x, time, l, fault)
	}
	return l[0].Level
}

// TestExample is the example of the chapter (E5).
func TestExample(t *testing.T) {
	x := api.Running{Effect: api.Effect{Form: api.FormTriangle, High: 100, Cycle: 1000, Spread: 1000}, Keys: []api.Key{key(1, "dim"), key(2, "dim")}, End: -1}
	for time, want := range map[int][2]int{0: {0, 100}, 250: {50, 50}, 500: {100, 0}, 750: {50, 50}, 1000: {0, 100}} {
		l := []api.Setting{setting(1, "dim", want[0]), setting(2, "dim", want[1])}
		same(t, fmt.Sprint("Settings at ", time), results(effect.Settings(stage(), x, nil, time)), results(l, api.OK))
	}
}

// TestWhen has the times at which a running effect gives settings (E5).
func TestWhen(t *testing.T) {
	for _, c := range []struct {
		name          string
		end, out      int
		there, nobody []int
	}{
		{"never", -1, 0, []int{1000, 1001, api.MaxTime}, []int{0, 999}},
		{"at once", 1000, 0, nil, []int{0, 999, 1000, 1001, api.MaxTime}},
		{"at an End", 1500, 0, []int{1000, 1499}, []int{999, 1500, 1501, api.MaxTime}},
		{"fading out", 1500, 200, []int{1000, 1500, 1501, 1699}, []int{999, 1700, 1701}},
		{"fading out for long", api.MaxTime, api.MaxTime, []int{1000, api.MaxTime}, []int{999}},
		{"fading out by a millisecond", 1000, 1, []int{1000}, []int{999, 1001}},
	} {
		x := run()
		x.End, x.Out = c.end, c.out
		base := []api.Setting{setting(2, "zoom", 5)}
		for _, time := range c.nobody {
			same(t, fmt.Sprint("Settings ", c.name, " at ", time), results(effect.Settings(stage(), x, base, time)), none[[]api.Setting](api.OK))
			same(t, fmt.Sprint("Apply ", c.name, " at ", time), results(effect.Apply(stage(), []api.Running{x}, base, time)), results(base, api.OK))
		}
		for _, time := range c.there {
			l, fault := effect.Settings(stage(), x, base, time)
			same(t, fmt.Sprint("Settings ", c.name, " at ", time), results(len(l), fault), results(3, api.OK))
		}
	}
}

// TestKeys looks at the order of settings, and at the Defaults of what is not in base (E5).
func TestKeys(t *testing.T) {
	x := api.Running{Effect: oneStep(api.Full, 1, 0), Keys: []api.Key{key(30, "zoom"), key(1, "pan"), key(2, "dim"), key(2, "pan")}, Start: 1000, In: 2, End: -1}
	x.Effect.High = 1000
	base := []api.Setting{setting(2, "pan", 0), setting(1, "dim", 7), setting(2, "dim", 200)}
	want := []api.Setting{setting(30, "zoom", 33268), setting(1, "pan", 750), setting(2, "dim", 600), setting(2, "pan", 500)}
	same(t, "Settings", results(effect.Settings(stage(), x, base, 1001)), results(want, api.OK))
	applied := []api.Setting{setting(2, "pan", 500), setting(1, "dim", 7), setting(2, "dim", 600), setting(30, "zoom", 33268), setting(1, "pan", 750)}
	same(t, "Apply", results(effect.Apply(stage(), []api.Running{x}, base, 1001)), results(applied, api.OK))
	same(t, "Apply without base", results(effect.Apply(stage(), []api.Running{x}, nil, 2000)), results([]api.Setting{setting(30, "zoom", 1000), setting(1, "pan", 1000), setting(2, "dim", 1000), setting(2, "pan", 1000)}, api.OK))
}

// TestLevels has levels between Low and High, whatever the base is (E5).
func TestLevels(t *testing.T) {
	x := run()
	x.Effect.Low, x.Effect.High = 100, 201
	for _, base := range []int{0, 150, api.Full} {
		for time, want := range map[int]int{1000: 100, 1001: 100, 1002: 100, 1003: 101, 1250: 151, 1500: 201, 1501: 201, 1750: 151, 1999: 100, 2000: 100} {
			same(t, fmt.Sprint("the level at ", time), moved(t, x, base, time), want)
		}
	}
}

// TestSizes has effects that are faded in and out (E5).
func TestSizes(t *testing.T) {
	still := api.Effect{Form: api.FormSteps, Low: 1000, High: 1000, Steps: []api.EffectStep{{Hold: 1}}}
	for _, c := range []struct {
		name     string
		in       int
		end, out int
		base     int
		pairs    []int // times, and levels
	}{
		{"without In", 0, -1, 0, 7, []int{1000, 1000, 1001, 1000}},
		{"in from below", 100, -1, 0, 0, []int{1000, 0, 1001, 10, 1050, 500, 1099, 990, 1100, 1000, 1101, 1000, api.MaxTime, 1000}},
		{"in from above", 1000, -1, 0, 2001, []int{1000, 2001, 1001, 2000, 1500, 1501, 1999, 1001, 2000, 1000}},
		{"in, rounded up", 1000, -1, 0, 1001, []int{1000, 1001, 1500, 1001, 1501, 1000}},
		{"out to below", 0, 1200, 100, 0, []int{1000, 1000, 1200, 1000, 1201, 990, 1250, 500, 1299, 10}},
		{"out to above", 0, 1200, 1000, 2000, []int{1200, 1000, 1201, 1001, 1700, 1500, 2199, 1999}},
		{"in and out", 100, 1200, 100, 0, []int{1050, 500, 1150, 1000, 1200, 1000, 1250, 500}},
		{"out while it comes in", 1000, 1500, 1000, 0, []int{1499, 499, 1500, 500, 1501, 500, 1600, 540, 1750, 563, 2000, 500, 2001, 499, 2250, 250}},
		{"out at once", 100, 1000, 100, 0, []int{1000, 0, 1050, 250, 1099, 10}},
		{"all that is there", 1000, 1500, 1000, 1000, []int{1000, 1000, 1250, 1000, 1750, 1000}},
	} {
		x := api.Running{Effect: still, Start: 1000, In: c.in, End: c.end, Out: c.out}
		for i := 0; i < len(c.pairs); i += 2 {
			same(t, fmt.Sprint("the level ", c.name, " at ", c.pairs[i]), moved(t, x, c.base, c.pairs[i]), c.pairs[i+1])
		}
	}
}

// TestRelative has effects that are added to what is there (E5).
func TestRelative(t *testing.T) {
	for _, c := range []struct {
		name      string
		low, high int
		base      int
		in        int
		pairs     []int // times, and levels
	}{
		{"around a base", 0, 1000, 20000, 0, []int{1000, 19500, 1250, 20000, 1500, 20500, 1501, 20498, 1750, 20000}},
		{"as far as it was from the middle", 64000, 65000, 20000, 0, []int{1000, 19500, 1250, 20000, 1500, 20500}},
		{"rounded up", 0, 1, 20000, 0, []int{1000, 20000, 1001, 20000, 1250, 20000, 1499, 20000, 1500, 20001}},
		{"not below 0", 0, 1000, 400, 0, []int{1000, 0, 1049, 0, 1050, 0, 1051, 2, 1250, 400, 1500, 900}},
		{"rounded up below 0", 0, 1, 0, 0, []int{1000, 0, 1500, 1}},
		{"not above full", 0, 1000, api.Full - 400, 0, []int{1000, api.Full - 900, 1449, api.Full - 2, 1450, api.Full, 1451, api.Full, 1500, api.Full}},
		{"all of it", 0, api.Full, 0, 0, []int{1000, 0, 1250, 0, 1500, 32768}},
		{"all of it, at full", 0, api.Full, api.Full, 0, []int{1000, 32768, 1250, api.Full, 1500, api.Full}},
		{"faded in", 0, 1000, 20000, 1000, []int{1000, 20000, 1100, 19970, 1250, 20000, 1500, 20250, 1999, 19502, 2000, 19500}},
		{"nothing", 30000, 30000, 77, 0, []int{1000, 77, 1250, 77, 1500, 77}},
	} {
		x := run()
		x.In = c.in
		x.Effect.Low, x.Effect.High, x.Effect.Relative = c.low, c.high, true
		for i := 0; i < len(c.pairs); i += 2 {
			same(t, fmt.Sprint("the level ", c.name, " at ", c.pairs[i]), moved(t, x, c.base, c.pairs[i]), c.pairs[i+1])
		}
	}
}

// TestRates has an effect of which the speed changes (E5, E6).
func TestRates(t *testing.T) {
	x, fault := effect.Faster(run(), 1250, 200)
	same(t, "Faster", fault, api.OK)
	for time, want := range map[int]int{1000: 0, 1100: 13107, 1250: 32768, 1375: 65535, 1500: 32768, 1625: 0} {
		same(t, fmt.Sprint("the level at ", time), moved(t, x, 0, time), want)
	}
	x, fault = effect.Faster(x, 1300, 0)
	same(t, "Faster", fault, api.OK)
	for _, time := range []int{1300, 1301, 5000, api.MaxTime} {
		same(t, fmt.Sprint("the level of what stands, at ", time), moved(t, x, 0, time), 45875)
	}
}

// TestApply puts effects one after the other (E5).
func TestApply(t *testing.T) {
	to := func(n int, keys ...api.Key) api.Running {
		return api.Running{Effect: api.Effect{Form: api.FormUp, Low: n, High: n, Cycle: 1}, Keys: keys, End: -1, In: 100}
	}
	a := to(1000, key(2, "pan"), key(1, "dim"))
	b := to(3000, key(1, "dim"), key(30, "dim"))
	base := []api.Setting{setting(30, "pan", 9), setting(1, "dim", 200)}
	for _, c := range []struct {
		name string
		l    []api.Running
		base []api.Setting
		want []api.Setting
	}{
		{"nothing", nil, nil, nil},
		{"nothing to base", nil, base, base},
		{"one", []api.Running{a}, base, []api.Setting{setting(30, "pan", 9), setting(1, "dim", 600), setting(2, "pan", 750)}},
		{"two", []api.Running{a, b}, base, []api.Setting{setting(30, "pan", 9), setting(1, "dim", 1800), setting(2, "pan", 750), setting(30, "dim", 1500)}},
		{"two in the other order", []api.Running{b, a}, base, []api.Setting{setting(30, "pan", 9), setting(1, "dim", 1300), setting(30, "dim", 1500), setting(2, "pan", 750)}},
		{"two to nothing", []api.Running{a, b}, nil, []api.Setting{setting(2, "pan", 750), setting(1, "dim", 1750), setting(30, "dim", 1500)}},
		{"one twice", []api.Running{a, a}, nil, []api.Setting{setting(2, "pan", 875), setting(1, "dim", 750)}},
		{"what is not there yet", []api.Running{with(a, func(x *api.Running) { x.Start = 51 }), b}, nil, []api.Setting{setting(1, "dim", 1500), setting(30, "dim", 1500)}},
		{"what is there no more", []api.Running{with(a, func(x *api.Running) { x.End = 50 }), with(b, func(x *api.Running) { x.End, x.Out = 10, 40 })}, base, base},
	} {
		same(t, "Apply "+c.name, results(effect.Apply(stage(), c.l, c.base, 50)), results(c.want, api.OK))
	}
	var many []api.Running
	for range 100 {
		many = append(many, with(to(api.Full, key(1, "dim")), func(x *api.Running) { x.Effect.Low, x.Effect.Relative, x.In = api.Full-2, true, 0 }))
	}
	same(t, "Apply of 100", results(effect.Apply(stage(), many, []api.Setting{setting(1, "dim", 1000)}, 50)), results([]api.Setting{setting(1, "dim", 900)}, api.OK))
	same(t, "Apply of 101", results(effect.Apply(stage(), append(many, many[0]), nil, 50)), none[[]api.Setting](api.ErrLarge))
}

// TestBaseFaults has settings that cannot be a base, and wrong times, which come behind them (E5).
func TestBaseFaults(t *testing.T) {
	for _, c := range []struct {
		name string
		base []api.Setting
		want api.Fault
	}{
		{"no such unit", []api.Setting{setting(3, "dim", 5)}, api.ErrNone},
		{"no such parameter", []api.Setting{setting(1, "tilt", 5)}, api.ErrNone},
		{"no key, ahead of the level", []api.Setting{setting(0, "", -1)}, api.ErrNone},
		{"the level -1", []api.Setting{setting(1, "dim", -1)}, api.ErrRange},
		{"a level above full", []api.Setting{setting(1, "dim", api.Full+1)}, api.ErrRange},
		{"the greatest level", []api.Setting{setting(1, "dim", math.MaxInt)}, api.ErrRange},
		{"a key twice", []api.Setting{setting(1, "dim", 5), setting(1, "pan", 5), setting(1, "dim", 5)}, api.ErrTwice},
		{"a key twice, the second time with a wrong level", []api.Setting{setting(1, "dim", 5), setting(1, "dim", -1)}, api.ErrRange},
		{"the first fault", []api.Setting{setting(1, "dim", 5), setting(1, "dim", 5), setting(1, "dim", -1), setting(0, "", 5)}, api.ErrTwice},
	} {
		for _, time := range []int{-1, 0, 1500, api.MaxTime + 1} {
			same(t, "Settings: "+c.name, results(effect.Settings(stage(), run(), c.base, time)), none[[]api.Setting](c.want))
			same(t, "Apply: "+c.name, results(effect.Apply(stage(), []api.Running{run()}, c.base, time)), none[[]api.Setting](c.want))
			same(t, "Apply of nothing: "+c.name, results(effect.Apply(stage(), nil, c.base, time)), none[[]api.Setting](c.want))
		}
	}
	for _, time := range []int{-1, api.MaxTime + 1, math.MinInt, math.MaxInt} {
		same(t, fmt.Sprint("Settings at ", time), results(effect.Settings(stage(), run(), nil, time)), none[[]api.Setting](api.ErrRange))
		same(t, fmt.Sprint("Apply at ", time), results(effect.Apply(stage(), []api.Running{run()}, nil, time)), none[[]api.Setting](api.ErrRange))
		same(t, fmt.Sprint("Apply of nothing at ", time), results(effect.Apply(stage(), nil, nil, time)), none[[]api.Setting](api.ErrRange))
	}
}

// TestApplyFaults looks at which fault of several effects comes first (E5).
func TestApplyFaults(t *testing.T) {
	noKeys := with(run(), func(x *api.Running) { x.Keys = nil })
	early := with(run(), func(x *api.Running) { x.Start = -1 })
	for _, c := range []struct {
		name string
		l    []api.Running
		want api.Fault
	}{
		{"the second one", []api.Running{run(), early}, api.ErrRange},
		{"the first one of two", []api.Running{noKeys, early}, api.ErrNone},
		{"the first one of two others", []api.Running{run(), early, noKeys}, api.ErrRange},
		{"too many wrong ones", make([]api.Running, 101), api.ErrLarge},
		{"as many wrong ones as there can be", make([]api.Running, 100), api.ErrKind},
	} {
		same(t, "Apply: "+c.name, results(effect.Apply(stage(), c.l, []api.Setting{{}}, -1)), none[[]api.Setting](c.want))
	}
}
