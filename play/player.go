package play

import (
	"cyclorama/api"
	"cyclorama/level"
)

// never is the follow of a cue behind which nobody goes on by itself, and of a player that does not: as a clock, and as a time.
const never = -1

// player is a playback with what it does. A copy of it goes its own way: lists of runs, and runs, are replaced, but not changed.
type player struct {
	api.Playback
	clock
	*score
	place  int // of its cue, or nowhere
	follow int // what its clock shows when it goes on, or never
	fader  int
	runs   []*api.Run // of the tracks, nil where there is none
}

// run returns the run of a key at a time, or nil.
func (p *player) run(k api.Key, time int) *api.Run {
	line, known := p.lines[k]
	if !known {
		return nil
	}
	return p.runAt(line, time)
}

// runAt returns the run of a track at a time, or nil.
func (p *player) runAt(line, time int) *api.Run {
	r := p.runs[line]
	if r == nil || r.Ending && p.at(time) >= end(r.Fade) {
		return nil
	}
	return r
}

// All fades of runs are right: those who ask for their ends and levels leave faults aside.

func end(f api.Fade) int {
	n, _ := level.Ends(f)
	return n
}

func levelAt(f api.Fade, shown int) int {
	n, _ := level.At(f, shown)
	return n
}

// fadeOf returns a fade of which that is cut which would be behind MaxTime.
func fadeOf(from, to, start, delay, time int, c api.Curve) api.Fade {
	delay = min(delay, api.MaxTime-start)
	time = min(time, api.MaxTime-start-delay)
	return api.Fade{From: from, To: to, Start: start, Delay: delay, Time: time, Curve: c}
}

// ended returns a run that goes from where another one is to 0, and is gone then.
func ended(r *api.Run, shown, delay, time int, c api.Curve, claim int) *api.Run {
	return &api.Run{Key: r.Key, Fade: fadeOf(levelAt(r.Fade, shown), 0, shown, delay, time, c), Claim: claim, Ending: true}
}

// due returns the time at which the player goes on by itself, or never.
func (p *player) due() int {
	if p.follow == never || p.stopped {
		return never
	}
	return p.when(p.follow)
}

// standing returns where the player stands at a time.
func (p *player) standing(time int) api.Standing {
	s := api.Standing{Playback: p.Number, Cue: p.number(p.place), Fader: p.fader, Paused: p.stopped, Follow: p.due()}
	for line := range p.tracks {
		if r := p.runAt(line, time); r != nil {
			out := *r
			out.Fade.Curve = cloneCurve(r.Fade.Curve)
			s.Runs = append(s.Runs, out)
		}
	}
	return s
}

// rest returns how long the clock goes at a time until all fades have ended.
func (p *player) rest(time int) int {
	n := 0
	for line := range p.tracks {
		if r := p.runAt(line, time); r != nil {
			n = max(n, end(r.Fade)-p.at(time))
		}
	}
	return n
}
