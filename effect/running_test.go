package effect_test

import (
	"fmt"
	"math"
	"testing"

	"cyclorama/api"
	"cyclorama/effect"
)

// manyRates are n rates, from a time on, millisecond by millisecond.
func manyRates(start, n int) []api.Rate {
	var l []api.Rate
	for i := range n {
		l = append(l, api.Rate{Time: start + i, Percent: i})
	}
	return l
}

func rates(numbers ...int) []api.Rate {
	var l []api.Rate
	for i := 0; i < len(numbers); i += 2 {
		l = append(l, api.Rate{Time: numbers[i], Percent: numbers[i+1]})
	}
	return l
}

// TestRightRunnings has running effects at the limits of all fields (E4).
func TestRightRunnings(t *testing.T) {
	for i, change := range []func(x *api.Running){
		func(x *api.Running) {},
		func(x *api.Running) { x.Effect = steps() },
		func(x *api.Running) { x.Keys = x.Keys[:1] },
		func(x *api.Running) { x.Keys = []api.Key{key(30, "zoom"), key(1, "pan"), key(30, "dim")} },
		func(x *api.Running) { x.Start = 0 },
		func(x *api.Running) { x.Start = api.MaxTime },
		func(x *api.Running) { x.In = api.MaxTime },
		func(x *api.Running) { x.End = 1000 },
		func(x *api.Running) { x.End, x.Out = api.MaxTime, api.MaxTime },
		func(x *api.Running) { x.Start, x.End = 0, 0 },
		func(x *api.Running) { x.Rates = manyRates(1000, 50) },
		func(x *api.Running) { x.Rates = rates(1000, 0, api.MaxTime, 1000) },
		func(x *api.Running) { x.End, x.Rates = 1000, rates(2000, 5) },
		func(x *api.Running) { x.Rates = []api.Rate{} },
	} {
		x := with(run(), change)
		same(t, fmt.Sprint("CheckRunning ", i), effect.CheckRunning(stage(), x), api.OK)
		_, fault := effect.Clock(x, 1000)
		same(t, fmt.Sprint("Clock ", i), fault, api.OK)
	}
	r, keys := crowd(400)
	same(t, "CheckRunning of 400 keys", effect.CheckRunning(r, api.Running{Effect: triangle(), Keys: keys, End: -1}), api.OK)
}

type wrongRun struct {
	name   string
	change func(x *api.Running)
	want   api.Fault
}

// wrongRuns are changes by which a running effect becomes wrong, whatever the rig is.
func wrongRuns() []wrongRun {
	_, keys := crowd(401)
	l := []wrongRun{
		{"no keys", func(x *api.Running) { x.Keys = nil }, api.ErrNone},
		{"no keys ahead of times", func(x *api.Running) { x.Keys, x.Start = []api.Key{}, -1 }, api.ErrNone},
		{"401 keys", func(x *api.Running) { x.Keys = keys }, api.ErrLarge},
		{"401 keys, some of them twice", func(x *api.Running) { x.Keys = append(keys[:400:400], keys[0]) }, api.ErrLarge},
		{"a key twice", func(x *api.Running) { x.Keys[1] = x.Keys[0] }, api.ErrTwice},
		{"the last key twice", func(x *api.Running) { x.Keys[2] = x.Keys[0] }, api.ErrTwice},
		{"twice ahead of times", func(x *api.Running) { x.Keys[2], x.In = x.Keys[1], -1 }, api.ErrTwice},
		{"Start below 0", func(x *api.Running) { x.Start = -1 }, api.ErrRange},
		{"Start that is too great", func(x *api.Running) { x.Start = api.MaxTime + 1 }, api.ErrRange},
		{"In below 0", func(x *api.Running) { x.In = -1 }, api.ErrRange},
		{"In that is too great", func(x *api.Running) { x.In = api.MaxTime + 1 }, api.ErrRange},
		{"Out below 0", func(x *api.Running) { x.Out = -1 }, api.ErrRange},
		{"Out that is too great", func(x *api.Running) { x.End, x.Out = 2000, api.MaxTime+1 }, api.ErrRange},
		{"Out that is too great, and no End", func(x *api.Running) { x.Out = api.MaxTime + 1 }, api.ErrRange},
		{"End -2", func(x *api.Running) { x.End = -2 }, api.ErrRange},
		{"the least End", func(x *api.Running) { x.End = math.MinInt }, api.ErrRange},
		{"End 0", func(x *api.Running) { x.End = 0 }, api.ErrRange},
		{"End ahead of Start", func(x *api.Running) { x.End = 999 }, api.ErrRange},
		{"End that is too great", func(x *api.Running) { x.End = api.MaxTime + 1 }, api.ErrRange},
		{"the greatest End", func(x *api.Running) { x.End = math.MaxInt }, api.ErrRange},
		{"Out without End", func(x *api.Running) { x.Out = 1 }, api.ErrForm},
		{"Out without End, ahead of rates", func(x *api.Running) { x.Out, x.Rates = 1, manyRates(1000, 51) }, api.ErrForm},
		{"times ahead of Out without End", func(x *api.Running) { x.In, x.Out = -1, 1 }, api.ErrRange},
		{"times ahead of rates", func(x *api.Running) { x.In, x.Rates = -1, manyRates(1000, 51) }, api.ErrRange},
		{"51 rates", func(x *api.Running) { x.Rates = manyRates(1000, 51) }, api.ErrLarge},
		{"51 wrong rates", func(x *api.Running) { x.Rates = manyRates(-1, 51) }, api.ErrLarge},
		{"a rate ahead of Start", func(x *api.Running) { x.Rates = rates(999, 100) }, api.ErrRange},
		{"a rate that is too late", func(x *api.Running) { x.Rates = rates(api.MaxTime+1, 100) }, api.ErrRange},
		{"a percentage below 0", func(x *api.Running) { x.Rates = rates(1000, -1) }, api.ErrRange},
		{"a percentage that is too great", func(x *api.Running) { x.Rates = rates(1000, 1001) }, api.ErrRange},
		{"a second percentage that is too great", func(x *api.Running) { x.Rates = rates(1000, 1, 1001, 1001) }, api.ErrRange},
		{"a time twice", func(x *api.Running) { x.Rates = rates(1000, 1, 1000, 2) }, api.ErrOrder},
		{"a time back", func(x *api.Running) { x.Rates = rates(1000, 1, 1005, 2, 1004, 3) }, api.ErrOrder},
		{"the range ahead of the order", func(x *api.Running) { x.Rates = rates(1005, 1, 999, 2) }, api.ErrRange},
		{"the percentage ahead of the order", func(x *api.Running) { x.Rates = rates(1005, 1, 1004, 1001) }, api.ErrRange},
		{"the first wrong rate", func(x *api.Running) { x.Rates = rates(1005, 1, 1004, 1, 1, -1) }, api.ErrOrder},
	}
	for _, n := range []int{math.MinInt, math.MaxInt} {
		l = append(l,
			wrongRun{fmt.Sprint("Start ", n), func(x *api.Running) { x.Start = n }, api.ErrRange},
			wrongRun{fmt.Sprint("In ", n), func(x *api.Running) { x.In = n }, api.ErrRange},
			wrongRun{fmt.Sprint("Out ", n), func(x *api.Running) { x.Out = n }, api.ErrRange},
			wrongRun{fmt.Sprint("a rate at ", n), func(x *api.Running) { x.Rates = rates(n, 1) }, api.ErrRange},
			wrongRun{fmt.Sprint("a percentage of ", n), func(x *api.Running) { x.Rates = rates(1000, n) }, api.ErrRange},
		)
	}
	return l
}

// TestWrongRunnings looks at all functions with a running effect, which have its fault ahead of their own ones (E4).
func TestWrongRunnings(t *testing.T) {
	small := stage()
	r, keys := crowd(401)
	small.Library, small.Units = append(small.Library, r.Library...), append(small.Units, api.Unit{Number: 40, Profile: "many", Universe: 1, Address: 20})
	for _, w := range wrongRuns() {
		x := with(run(), w.change)
		rig := small
		if len(x.Keys) > 3 {
			rig = r
			same(t, "the keys of the rig", effect.CheckRunning(r, with(run(), func(x *api.Running) { x.Keys = keys[:400] })), api.OK)
		}
		same(t, "CheckRunning: "+w.name, effect.CheckRunning(rig, x), w.want)
		for _, time := range []int{-1, 0, 5000, api.MaxTime + 1} {
			same(t, "Clock: "+w.name, results(effect.Clock(x, time)), results(0, w.want))
			same(t, "Settings: "+w.name, results(effect.Settings(rig, x, []api.Setting{{}}, time)), none[[]api.Setting](w.want))
			same(t, "Apply: "+w.name, results(effect.Apply(rig, []api.Running{x}, []api.Setting{{}}, time)), none[[]api.Setting](w.want))
			same(t, "Faster: "+w.name, results(effect.Faster(x, time, -1)), none[api.Running](w.want))
			same(t, "Stop: "+w.name, results(effect.Stop(x, time, -1)), none[api.Running](w.want))
		}
	}
}

// TestUnknownKeys has keys that the rig does not have, which matters only where there is one (E4).
func TestUnknownKeys(t *testing.T) {
	for _, c := range []struct {
		name   string
		change func(x *api.Running)
		want   api.Fault
		clock  api.Fault
	}{
		{"no such unit", func(x *api.Running) { x.Keys[0].Unit = 3 }, api.ErrNone, api.OK},
		{"no such parameter", func(x *api.Running) { x.Keys[2].Param = "tilt" }, api.ErrNone, api.OK},
		{"no parameter", func(x *api.Running) { x.Keys[1] = api.Key{} }, api.ErrNone, api.OK},
		{"an unknown key twice", func(x *api.Running) { x.Keys = []api.Key{key(3, "dim"), key(3, "dim")} }, api.ErrNone, api.ErrTwice},
		{"an unknown key behind one that is there twice", func(x *api.Running) { x.Keys[1], x.Keys[2] = x.Keys[0], api.Key{} }, api.ErrTwice, api.ErrTwice},
		{"an unknown key ahead of one that is there twice", func(x *api.Running) { x.Keys[0], x.Keys[1] = api.Key{}, x.Keys[2] }, api.ErrNone, api.ErrTwice},
		{"an unknown key ahead of times", func(x *api.Running) { x.Keys[0], x.Start = api.Key{}, -1 }, api.ErrNone, api.ErrRange},
		{"an unknown key, and too many", func(x *api.Running) { x.Keys = make([]api.Key, 401) }, api.ErrLarge, api.ErrLarge},
	} {
		x := with(run(), c.change)
		same(t, "CheckRunning: "+c.name, effect.CheckRunning(stage(), x), c.want)
		same(t, "Settings: "+c.name, results(effect.Settings(stage(), x, nil, 5000)), none[[]api.Setting](c.want))
		same(t, "Apply: "+c.name, results(effect.Apply(stage(), []api.Running{x}, nil, 5000)), none[[]api.Setting](c.want))
		_, clock := effect.Clock(x, 5000)
		_, faster := effect.Faster(x, 5000, 5)
		_, stop := effect.Stop(x, 5000, 5)
		same(t, "Clock, Faster, Stop: "+c.name, results(clock, faster, stop), results(c.clock, c.clock, c.clock))
	}
}

// TestRigsComeFirst has wrong rigs, whose faults come ahead of all others (E4, E5).
func TestRigsComeFirst(t *testing.T) {
	for want, change := range map[api.Fault]func(r *api.Rig){
		api.ErrName:  func(r *api.Rig) { r.Library[0].Name = "" },
		api.ErrNone:  func(r *api.Rig) { r.Library[0].Params = nil },
		api.ErrRange: func(r *api.Rig) { r.Units[0].Address = 511 },
		api.ErrOrder: func(r *api.Rig) { r.Units[1].Number = 1 },
		api.ErrClash: func(r *api.Rig) { r.Units[1].Address = 2 },
	} {
		r := with(stage(), change)
		same(t, "CheckRunning", effect.CheckRunning(r, api.Running{}), want)
		same(t, "CheckRunning of a right one", effect.CheckRunning(r, run()), want)
		same(t, "Settings", results(effect.Settings(r, api.Running{}, []api.Setting{{}}, -1)), none[[]api.Setting](want))
		same(t, "Settings of a right one", results(effect.Settings(r, run(), nil, 0)), none[[]api.Setting](want))
		same(t, "Apply", results(effect.Apply(r, make([]api.Running, 101), []api.Setting{{}}, -1)), none[[]api.Setting](want))
		same(t, "Apply of nothing", results(effect.Apply(r, nil, nil, 0)), none[[]api.Setting](want))
	}
}

// TestClock has clocks at times (E4).
func TestClock(t *testing.T) {
	for _, c := range []struct {
		name  string
		rates []api.Rate
		pairs []int // times, and clocks
	}{
		{"no rates", nil, []int{0, 0, 999, 0, 1000, 0, 1001, 100, 1500, 50000, api.MaxTime, 3599900000}},
		{"from Start on", rates(1000, 200), []int{999, 0, 1000, 0, 1001, 200, 1500, 100000}},
		{"from later on", rates(1200, 50), []int{1000, 0, 1199, 19900, 1200, 20000, 1201, 20050, 1400, 30000}},
		{"several", rates(1000, 1, 1010, 0, 1020, 1000, 1030, 33), []int{0, 0, 1000, 0, 1010, 10, 1011, 10, 1020, 10, 1021, 1010, 1030, 10010, 1031, 10043, 1130, 13310}},
		{"at the end", rates(api.MaxTime, 1000), []int{api.MaxTime - 1, 3599899900, api.MaxTime, 3599900000}},
		{"as fast as can be", rates(1000, 1000), []int{api.MaxTime, 35999000000}},
		{"many", manyRates(1000, 50), []int{1000, 0, 1001, 0, 1002, 1, 1003, 3, 1049, 1176, 1050, 1225, 1051, 1274}},
	} {
		x := run()
		x.Rates = c.rates
		for i := 0; i < len(c.pairs); i += 2 {
			same(t, fmt.Sprint("Clock of ", c.name, " at ", c.pairs[i]), results(effect.Clock(x, c.pairs[i])), results(c.pairs[i+1], api.OK))
			// The clock goes on behind the End.
			y := with(x, func(x *api.Running) { x.End, x.Out = 1001, 5 })
			same(t, fmt.Sprint("Clock of ", c.name, " at ", c.pairs[i], " with an End"), results(effect.Clock(y, c.pairs[i])), results(c.pairs[i+1], api.OK))
		}
	}
	x := run()
	x.Start, x.Rates = 0, rates(0, 1000)
	same(t, "the greatest clock", results(effect.Clock(x, api.MaxTime)), results(36000000000, api.OK))
	for _, time := range []int{-1, api.MaxTime + 1, math.MinInt, math.MaxInt} {
		same(t, fmt.Sprint("Clock at ", time), results(effect.Clock(run(), time)), results(0, api.ErrRange))
	}
}

// TestFaster has effects that become faster (E6).
func TestFaster(t *testing.T) {
	for _, c := range []struct {
		name          string
		before        []api.Rate
		time, percent int
		want          []api.Rate
	}{
		{"at Start", nil, 1000, 0, rates(1000, 0)},
		{"later", nil, 1500, 1000, rates(1500, 1000)},
		{"at the end", nil, api.MaxTime, 7, rates(api.MaxTime, 7)},
		{"behind others", rates(1000, 5, 1100, 6), 1101, 7, rates(1000, 5, 1100, 6, 1101, 7)},
		{"at the time of another one", rates(1000, 5, 1100, 6), 1100, 7, rates(1000, 5, 1100, 7)},
		{"ahead of another one", rates(1000, 5, 1100, 6, 1200, 7), 1099, 8, rates(1000, 5, 1099, 8)},
		{"ahead of all", rates(1001, 5, 1100, 6), 1000, 8, rates(1000, 8)},
		{"with the same percentage", rates(1001, 5), 1002, 5, rates(1001, 5, 1002, 5)},
		{"the 50th rate", manyRates(1000, 49), 1049, 7, append(manyRates(1000, 49), api.Rate{Time: 1049, Percent: 7})},
		{"in place of the 50th rate", manyRates(1000, 50), 1049, 7, append(manyRates(1000, 49), api.Rate{Time: 1049, Percent: 7})},
		{"in place of the first one of 50", manyRates(1000, 50), 1000, 7, rates(1000, 7)},
	} {
		x := run()
		x.Effect, x.In, x.End, x.Out, x.Rates = steps(), 5, 1010, 50, c.before
		want := x
		want.Rates = c.want
		same(t, "Faster: "+c.name, results(effect.Faster(x, c.time, c.percent)), results(want, api.OK))
	}
	full := run()
	full.Rates = manyRates(1000, 50)
	for _, c := range []struct {
		name          string
		x             api.Running
		time, percent int
		want          api.Fault
	}{
		{"a time below 0", run(), -1, 5, api.ErrRange},
		{"a time that is too great", run(), api.MaxTime + 1, 5, api.ErrRange},
		{"a time ahead of Start", run(), 999, 5, api.ErrRange},
		{"the percentage -1", run(), 1000, -1, api.ErrRange},
		{"the percentage 1001", run(), 1000, 1001, api.ErrRange},
		{"the 51st rate", full, 1050, 5, api.ErrLarge},
		{"the 51st rate at the end", full, api.MaxTime, 5, api.ErrLarge},
		{"a 51st rate that is wrong", full, 1050, 1001, api.ErrRange},
	} {
		same(t, "Faster: "+c.name, results(effect.Faster(c.x, c.time, c.percent)), none[api.Running](c.want))
	}
}

// TestStop has effects that stop (E6).
func TestStop(t *testing.T) {
	for _, c := range []struct{ time, out int }{{1000, 0}, {1000, 5}, {1500, api.MaxTime}, {api.MaxTime, 0}, {api.MaxTime, api.MaxTime}} {
		x := run()
		x.Effect, x.In, x.Rates = steps(), 5, rates(1200, 5)
		want := x
		want.End, want.Out = c.time, c.out
		same(t, fmt.Sprintf("Stop %+v", c), results(effect.Stop(x, c.time, c.out)), results(want, api.OK))
	}
	ended := with(run(), func(x *api.Running) { x.End, x.Out = 1000, 5 })
	for _, c := range []struct {
		name      string
		x         api.Running
		time, out int
		want      api.Fault
	}{
		{"a time below 0", run(), -1, 5, api.ErrRange},
		{"a time that is too great", run(), api.MaxTime + 1, 5, api.ErrRange},
		{"a time ahead of Start", run(), 999, 5, api.ErrRange},
		{"out below 0", run(), 1000, -1, api.ErrRange},
		{"out that is too great", run(), 1000, api.MaxTime + 1, api.ErrRange},
		{"what ends", ended, 1000, 5, api.ErrState},
		{"what has ended", ended, 2000, 0, api.ErrState},
		{"what ends, ahead of Start", ended, 999, 5, api.ErrRange},
		{"what ends, within a wrong time", ended, 1000, -1, api.ErrRange},
	} {
		same(t, "Stop: "+c.name, results(effect.Stop(c.x, c.time, c.out)), none[api.Running](c.want))
	}
}
