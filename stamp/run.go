package stamp

import (
	"slices"
	"sort"

	"cyclorama/api"
	"cyclorama/level"
	"cyclorama/play"
)

// stretch is a part of the day, from a frame on and ahead of another one, with the events that are due in it.
type stretch struct {
	pace
	from, to int
	events   []api.Event
}

// stretchOf returns a stretch of the day. Its events are those of the list, and share their memory.
func stretchOf(s api.Setup, rate int, l []api.Event, from, to int) (stretch, api.Fault) {
	p, fault := checked(s, rate, l)
	if fault != api.OK {
		return stretch{}, fault
	}
	if from < 0 || from > to || to > p.day() {
		return stretch{}, api.ErrRange
	}
	ahead := func(frame int) int {
		return sort.Search(len(l), func(i int) bool { return l[i].At >= frame })
	}
	return stretch{p, from, to, l[ahead(from):ahead(to)]}, api.OK
}

// until returns how long it is from the start of the stretch to a frame.
func (x stretch) until(frame int) int { return x.millis(frame - x.from) }

// run returns a new desk on which the events are done, of which the start of the stretch is at a time. It cannot be asked for too many actions, since lists have fewer events than desks can have actions.
func (x stretch) run(s api.Setup, start int) (*play.Desk, api.Fault) {
	if !level.IsTime(start) {
		return nil, api.ErrRange
	}
	d, fault := play.New(s)
	if fault != api.OK {
		return nil, fault
	}
	for _, e := range x.events {
		a := e.Action
		a.Time = start + x.until(e.At)
		if !level.IsTime(a.Time) {
			return nil, api.ErrRange
		}
		// What cannot be done where its playback stands then is passed over.
		d.Do(a)
	}
	return d, api.OK
}

// last returns the last action of a kind, without its time, if there is one.
func (x stretch) last(kind int) []api.Action {
	for _, e := range slices.Backward(x.events) {
		if e.Action.Kind == kind {
			return []api.Action{e.Action}
		}
	}
	return nil
}

// Due returns the events from a frame on, ahead of another one.
func Due(s api.Setup, rate int, l []api.Event, from, to int) ([]api.Event, api.Fault) {
	x, fault := stretchOf(s, rate, l, from, to)
	return slices.Clone(x.events), fault
}

// Run returns a new desk on which the events of a stretch of the day are done, of which the start is at a time.
func Run(s api.Setup, rate int, l []api.Event, from, to, start int) (*play.Desk, api.Fault) {
	x, fault := stretchOf(s, rate, l, from, to)
	if fault != api.OK {
		return nil, fault
	}
	return x.run(s, start)
}

// Reach returns the actions that bring a new desk at once to where it stands behind a stretch of the day.
func Reach(s api.Setup, rate int, l []api.Event, from, to int) ([]api.Action, api.Fault) {
	x, fault := stretchOf(s, rate, l, from, to)
	if fault != api.OK {
		return nil, fault
	}
	d, fault := x.run(s, 0)
	if fault != api.OK {
		return nil, fault
	}
	// All events are ahead of the end of the stretch, so that no action of the desk is later.
	end := x.until(to)
	if !level.IsTime(end) {
		return nil, api.ErrRange
	}
	return slices.Concat(steps(standings(d, s.Playbacks, end)), x.last(api.ActGrand), x.last(api.ActBlack)), api.OK
}

// standings returns where all playbacks of a desk stand at a time.
func standings(d *play.Desk, playbacks []api.Playback, time int) []api.Standing {
	l := make([]api.Standing, len(playbacks))
	for i, b := range playbacks {
		l[i], _ = d.Standing(b.Number, time)
	}
	return l
}

// steps returns the actions, each one at the time 0, that bring playbacks to where they stand: first all jumps, then all faders, then all pauses.
func steps(l []api.Standing) []api.Action {
	var all []api.Action
	add := func(step func(s api.Standing) (api.Action, bool)) {
		for _, s := range l {
			if a, needed := step(s); needed {
				all = append(all, a)
			}
		}
	}
	add(func(s api.Standing) (api.Action, bool) {
		return api.Action{Kind: api.ActJump, Playback: s.Playback, Cue: s.Cue}, s.Cue != 0
	})
	add(func(s api.Standing) (api.Action, bool) {
		return api.Action{Kind: api.ActFader, Playback: s.Playback, Level: s.Fader}, s.Fader != api.Full
	})
	add(func(s api.Standing) (api.Action, bool) {
		return api.Action{Kind: api.ActPause, Playback: s.Playback}, s.Paused
	})
	return all
}
