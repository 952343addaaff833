package play

import "cyclorama/api"

// visit is the coming of a player to a cue.
type visit struct {
	api.Cue
	place int
	start int // on the clock of the player
	claim int
	level func(k api.Key) int // of the desk directly ahead of it
}

// goTo lets a player go to the cue at a place.
func (m *moment) goTo(p *player, place int) api.Fault {
	if !p.has(place) {
		return api.ErrNone
	}
	p.goOn(m.time)
	v := visit{p.cues[place], place, p.at(m.time), m.number, m.level}
	runs := make([]*api.Run, len(p.tracks))
	for line, t := range p.tracks {
		runs[line] = v.next(p.runAt(line, m.time), t)
	}
	p.runs, p.place, p.follow = runs, place, never
	if v.Follow != never && p.has(place+1) {
		p.follow = v.start + v.Follow
	}
	return api.OK
}

// next returns the run that a track has from a visit on, or nil: r is the one that it had until then, or nil.
func (v visit) next(r *api.Run, t track) *api.Run {
	to, there := t.at(v.place)
	switch {
	case there && r != nil && !r.Ending && r.Fade.To == to.level:
		return r
	case there:
		return v.begin(r, t, to)
	case r == nil || !isIntensity(t.param):
		return nil
	case r.Ending:
		return r
	}
	return ended(r, v.start, v.Delay, v.Down, v.Curve, v.claim)
}

// begin returns a run to the level of a move.
func (v visit) begin(r *api.Run, t track, to placed) *api.Run {
	from := v.from(r, t)
	delay, time := v.Delay, v.time(t, from, to.level)
	if to.Timed && to.place == v.place {
		delay, time = to.Delay, to.Time
	}
	if t.param.Snap {
		time = 0
	}
	return &api.Run{Key: t.key, Fade: fadeOf(from, to.level, v.start, delay, time, v.Curve), Claim: v.claim}
}

// from returns the level from which a run begins.
func (v visit) from(r *api.Run, t track) int {
	switch {
	case r != nil:
		return levelAt(r.Fade, v.start)
	case isIntensity(t.param):
		return 0
	}
	return v.level(t.key)
}

// time returns that one of the times of the cue that counts for a way.
func (v visit) time(t track, from, to int) int {
	switch {
	case !isIntensity(t.param):
		return v.Other
	case to < from:
		return v.Down
	}
	return v.Up
}
