package stamp

import (
	"cyclorama/api"
	"cyclorama/play"
)

// CheckEvents validates a list of events for a setup.
func CheckEvents(s api.Setup, rate int, l []api.Event) api.Fault {
	_, fault := checked(s, rate, l)
	return fault
}

// checked returns the pace of a rate, if a list of events is right.
func checked(s api.Setup, rate int, l []api.Event) (pace, api.Fault) {
	p, fault := paceFor(s, rate)
	if fault != api.OK {
		return pace{}, fault
	}
	if fault := p.checkEvents(s, l); fault != api.OK {
		return pace{}, fault
	}
	return p, api.OK
}

// paceFor returns the pace of a rate, if a setup is right.
func paceFor(s api.Setup, rate int) (pace, api.Fault) {
	if fault := play.CheckSetup(s); fault != api.OK {
		return pace{}, fault
	}
	return paceOf(rate)
}

// checkEvents validates a list of events for a setup that is right.
func (p pace) checkEvents(s api.Setup, l []api.Event) api.Fault {
	if len(l) > api.MaxEvents {
		return api.ErrLarge
	}
	check := checkerOf(s)
	ahead := 0
	for _, e := range l {
		switch {
		case !isBelow(e.At, p.day()):
			return api.ErrRange
		case e.At < ahead:
			return api.ErrOrder
		}
		if fault := check(e.Action); fault != api.OK {
			return fault
		}
		ahead = e.At
	}
	return api.OK
}

// checkerOf returns the function that validates the actions of events for a setup that is right.
func checkerOf(s api.Setup) func(a api.Action) api.Fault {
	played := cuesOf(s)
	return func(a api.Action) api.Fault {
		if fault := play.CheckForm(a); fault != api.OK {
			return fault
		}
		cues, there := played[a.Playback]
		switch {
		case a.Time != 0:
			return api.ErrForm
		case play.OfPlayback(a) && !there:
			return api.ErrNone
		case a.Kind == api.ActJump && !cues[a.Cue]:
			return api.ErrNone
		}
		return play.CheckLevel(a)
	}
}

// cuesOf returns which numbers the cues of each playback have.
func cuesOf(s api.Setup) map[int]map[int]bool {
	listed := map[int]map[int]bool{}
	for _, l := range s.Lists {
		listed[l.Number] = map[int]bool{}
		for _, c := range l.Cues {
			listed[l.Number][c.Number] = true
		}
	}
	played := map[int]map[int]bool{}
	for _, b := range s.Playbacks {
		played[b.Number] = listed[b.List]
	}
	return played
}
