package level

import (
	"sort"

	"cyclorama/api"
)

// CheckFade says what is wrong with a fade.
func CheckFade(f api.Fade) api.Fault {
	if !areLevels(f.From, f.To) {
		return api.ErrRange
	}
	if !IsTime(f.Start) || !IsTime(f.Delay) || !IsTime(f.Time) || !IsTime(end(f)) {
		return api.ErrRange
	}
	return CheckCurve(f.Curve)
}

func end(f api.Fade) int { return f.Start + f.Delay + f.Time }

// course returns the level of a fade, which must be right, as a function of the time.
func course(f api.Fade) func(t int) int {
	way := shape(f.Curve)
	begin := f.Start + f.Delay
	return func(t int) int {
		switch {
		// The end is looked at first, since it is the beginning, too, where the Time is 0.
		case t >= end(f):
			return f.To
		case t <= begin:
			return f.From
		}
		return way(t-begin, f.Time).between(f.From, f.To)
	}
}

// first returns the least time from a to b that has what b, and with a time all later ones, must have.
func first(a, b int, has func(t int) bool) int {
	return a + sort.Search(b-a, func(n int) bool { return has(a + n) })
}

// At returns the level of a fade at a time.
func At(f api.Fade, t int) (int, api.Fault) {
	if x := CheckFade(f); x != api.OK {
		return 0, x
	}
	if !IsTime(t) {
		return 0, api.ErrRange
	}
	return course(f)(t), api.OK
}

// Ends returns the time from which on a fade has its last level.
func Ends(f api.Fade) (int, api.Fault) {
	if x := CheckFade(f); x != api.OK {
		return 0, x
	}
	return end(f), api.OK
}

// Reach returns the first time at which a fade has come to a level, and whether it ever does.
func Reach(f api.Fade, level int) (int, bool, api.Fault) {
	if x := CheckFade(f); x != api.OK {
		return 0, false, x
	}
	if !IsLevel(level) {
		return 0, false, api.ErrRange
	}
	at := course(f)
	reached := func(t int) bool {
		switch {
		case f.From < f.To:
			return at(t) >= level
		case f.From > f.To:
			return at(t) <= level
		}
		return at(t) == level
	}
	if !reached(end(f)) {
		return 0, false, api.OK
	}
	return first(f.Start, end(f), reached), true, api.OK
}

// Changes returns the level at the Start of a fade, and each change of it behind that.
func Changes(f api.Fade) ([]api.Change, api.Fault) {
	if x := CheckFade(f); x != api.OK {
		return nil, x
	}
	at := course(f)
	last := api.Change{Time: f.Start, Level: at(f.Start)}
	changes := []api.Change{last}
	for last.Level != f.To {
		if len(changes) == api.MaxSteps {
			return nil, api.ErrLarge
		}
		// No curve goes back: a level that has been left does not come again.
		t := first(last.Time+1, end(f), func(t int) bool { return at(t) != last.Level })
		last = api.Change{Time: t, Level: at(t)}
		changes = append(changes, last)
	}
	return changes, api.OK
}

// Turn returns the fade that goes elsewhere from where f is at a time.
func Turn(f api.Fade, t, to, delay, time int, c api.Curve) (api.Fade, api.Fault) {
	from, x := At(f, t)
	if x != api.OK {
		return api.Fade{}, x
	}
	turned := api.Fade{From: from, To: to, Start: t, Delay: delay, Time: time, Curve: c}
	if x := CheckFade(turned); x != api.OK {
		return api.Fade{}, x
	}
	turned.Curve = copied(c)
	return turned, api.OK
}
