package effect

import (
	"slices"
	"sort"

	"cyclorama/api"
	"cyclorama/fixture"
	"cyclorama/level"
)

// never is the End of a running effect that does not end.
const never = -1

// usual is the percentage at which an effect runs without Rates.
const usual = 100

// CheckRunning validates a running effect on a rig.
func CheckRunning(r api.Rig, x api.Running) api.Fault {
	params, fault := fixture.Params(r)
	if fault != api.OK {
		return fault
	}
	return checkRunning(x, keysOf(params))
}

// keysOf returns which keys a rig has, of which these are the parameters.
func keysOf(params map[api.Key]api.Param) func(k api.Key) bool {
	return func(k api.Key) bool {
		_, known := params[k]
		return known
	}
}

func anyKey(api.Key) bool { return true }

// checkRunning validates a running effect where there are these keys.
func checkRunning(x api.Running, known func(k api.Key) bool) api.Fault {
	if fault := Check(x.Effect); fault != api.OK {
		return fault
	}
	if fault := checkKeys(x.Keys, known); fault != api.OK {
		return fault
	}
	switch {
	case !level.IsTime(x.Start) || !level.IsTime(x.In) || !level.IsTime(x.Out):
		return api.ErrRange
	case ends(x) && (x.End < x.Start || x.End > api.MaxTime):
		return api.ErrRange
	case !ends(x) && x.Out != 0:
		return api.ErrForm
	}
	return checkRates(x)
}

func checkKeys(l []api.Key, known func(k api.Key) bool) api.Fault {
	switch {
	case len(l) == 0:
		return api.ErrNone
	case len(l) > api.MaxTargets:
		return api.ErrLarge
	}
	there := map[api.Key]bool{}
	for _, k := range l {
		switch {
		case !known(k):
			return api.ErrNone
		case there[k]:
			return api.ErrTwice
		}
		there[k] = true
	}
	return api.OK
}

func ends(x api.Running) bool { return x.End != never }

func checkRates(x api.Running) api.Fault {
	if len(x.Rates) > api.MaxRates {
		return api.ErrLarge
	}
	for i, r := range x.Rates {
		switch {
		case r.Time < x.Start || r.Time > api.MaxTime || !isPercent(r.Percent):
			return api.ErrRange
		case i > 0 && r.Time <= x.Rates[i-1].Time:
			return api.ErrOrder
		}
	}
	return api.OK
}

func isPercent(n int) bool { return n >= 0 && n <= api.MaxRate }

// checkAt validates a running effect, whatever the rig is, and a time.
func checkAt(x api.Running, t int) api.Fault {
	if fault := checkRunning(x, anyKey); fault != api.OK {
		return fault
	}
	if !level.IsTime(t) {
		return api.ErrRange
	}
	return api.OK
}

// Clock returns the clock of a running effect at a time.
func Clock(x api.Running, t int) (int, api.Fault) {
	if fault := checkAt(x, t); fault != api.OK {
		return 0, fault
	}
	return clockAt(x, t), api.OK
}

func clockAt(x api.Running, t int) int {
	t = max(t, x.Start)
	shown := 0
	last := api.Rate{Time: x.Start, Percent: usual}
	for _, r := range ahead(x.Rates, t) {
		shown += (r.Time - last.Time) * last.Percent
		last = r
	}
	return shown + (t-last.Time)*last.Percent
}

// ahead returns the rates up to a time, without it.
func ahead(l []api.Rate, t int) []api.Rate {
	return l[:sort.Search(len(l), func(i int) bool { return l[i].Time >= t })]
}

// Faster returns a running effect that has a percentage from a time on.
func Faster(x api.Running, t, percent int) (api.Running, api.Fault) {
	if fault := checkAt(x, t); fault != api.OK {
		return api.Running{}, fault
	}
	if !isPercent(percent) || t < x.Start {
		return api.Running{}, api.ErrRange
	}
	x = clone(x)
	x.Rates = append(ahead(x.Rates, t), api.Rate{Time: t, Percent: percent})
	if len(x.Rates) > api.MaxRates {
		return api.Running{}, api.ErrLarge
	}
	return x, api.OK
}

// Stop returns a running effect that ends at a time.
func Stop(x api.Running, t, out int) (api.Running, api.Fault) {
	if fault := checkAt(x, t); fault != api.OK {
		return api.Running{}, fault
	}
	switch {
	case t < x.Start || !level.IsTime(out):
		return api.Running{}, api.ErrRange
	case ends(x):
		return api.Running{}, api.ErrState
	}
	x = clone(x)
	x.End, x.Out = t, out
	return x, api.OK
}

// clone returns a running effect that shares no memory with this one.
func clone(x api.Running) api.Running {
	x.Effect.Steps = slices.Clone(x.Effect.Steps)
	x.Keys = slices.Clone(x.Keys)
	x.Rates = slices.Clone(x.Rates)
	return x
}
