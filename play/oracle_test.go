package play_test

import (
	"maps"
	"slices"
	"sort"

	"cyclorama/api"
	"cyclorama/cue"
	"cyclorama/fixture"
	"cyclorama/level"
	"cyclorama/pick"
)

// The rules of the chapter, written down a second time: a world in which time goes by millisecond by millisecond, and clocks with it.

type rule struct {
	broken bool
	fault  api.Fault
}

// first returns the fault of the first rule that is broken.
func first(rules ...rule) api.Fault {
	for _, r := range rules {
		if r.broken {
			return r.fault
		}
	}
	return api.OK
}

func outside(n, least, most int) bool { return n < least || n > most }

func setupFault(s api.Setup) api.Fault {
	presets := pick.CheckPresets(s.Rig, s.Presets)
	fault := first(rule{presets != api.OK, presets}, rule{len(s.Lists) > 30, api.ErrLarge})
	var lists []int
	for i, l := range s.Lists {
		if fault != api.OK {
			return fault
		}
		cues := cue.CheckList(s.Rig, s.Presets, l.Cues)
		fault = first(
			rule{outside(l.Number, 1, 999), api.ErrRange},
			rule{i > 0 && l.Number <= s.Lists[max(0, i-1)].Number, api.ErrOrder},
			rule{cues != api.OK, cues},
		)
		lists = append(lists, l.Number)
	}
	fault = first(rule{fault != api.OK, fault}, rule{len(s.Playbacks) > 40, api.ErrLarge})
	for i, p := range s.Playbacks {
		if fault != api.OK {
			return fault
		}
		fault = first(
			rule{outside(p.Number, 1, 40), api.ErrRange},
			rule{i > 0 && p.Number <= s.Playbacks[max(0, i-1)].Number, api.ErrOrder},
			rule{!slices.Contains(lists, p.List), api.ErrNone},
			rule{outside(p.Priority, 0, 100), api.ErrRange},
		)
	}
	return fault
}

// world is a desk at a time.
type world struct {
	setup   api.Setup
	params  map[api.Key]api.Param
	time    int
	last    int // time of the last action
	actions int
	number  int
	grand   int
	black   bool
	boxes   []box
}

// box is what a playback is doing.
type box struct {
	api.Playback
	cues    []api.Cue
	clock   int
	stopped bool
	cue     int // its number, or 0
	due     int // on the clock, or -1
	fader   int
	runs    map[api.Key]api.Run
}

// newWorld returns a world that begins at a time: nothing has been done earlier.
func newWorld(s api.Setup, time int) world {
	w := world{setup: s, params: map[api.Key]api.Param{}, time: time, grand: 65535}
	keys, _ := fixture.Keys(s.Rig)
	for _, k := range keys {
		w.params[k], _ = fixture.Find(s.Rig, k)
	}
	for _, p := range s.Playbacks {
		b := box{Playback: p, clock: time, due: -1, fader: 65535, runs: map[api.Key]api.Run{}}
		for _, l := range s.Lists {
			if l.Number == p.List {
				b.cues = l.Cues
			}
		}
		w.boxes = append(w.boxes, b)
	}
	return w
}

// until returns the world as it will be at a time; this one stays as it is.
func (w world) until(time int) world {
	w.boxes = slices.Clone(w.boxes)
	for i := range w.boxes {
		w.boxes[i].runs = maps.Clone(w.boxes[i].runs)
	}
	w.follows()
	for w.time < time {
		w.time++
		for i := range w.boxes {
			if b := &w.boxes[i]; !b.stopped {
				b.clock++
				b.forget()
			}
		}
		w.follows()
	}
	return w
}

// forget takes out the runs that are gone.
func (b *box) forget() {
	for k, r := range b.runs {
		if r.Ending && b.clock >= r.Fade.Start+r.Fade.Delay+r.Fade.Time {
			delete(b.runs, k)
		}
	}
}

// follows does all follows of this millisecond.
func (w *world) follows() {
	for i := 0; i < len(w.boxes); {
		b := &w.boxes[i]
		if b.due == b.clock {
			w.number++
			w.comeTo(b, b.beside(1))
			i = 0
		} else {
			i++
		}
	}
}

// beside returns the number of the cue that is some places behind the one of the box (from nowhere: behind none), or 0.
func (b *box) beside(places int) int {
	numbers := []int{0}
	for _, c := range b.cues {
		numbers = append(numbers, c.Number)
	}
	i := slices.Index(numbers, b.cue) + places
	if i < 0 || i >= len(numbers) {
		return 0
	}
	return numbers[i]
}

func valueAt(f api.Fade, clock int) int {
	n, _ := level.At(f, clock)
	return n
}

// comeTo is a box's coming to a cue that is there.
func (w *world) comeTo(b *box, number int) {
	i := slices.IndexFunc(b.cues, func(c api.Cue) bool { return c.Number == number })
	c := b.cues[i]
	b.stopped, b.cue, b.due = false, number, -1
	if c.Follow >= 0 && i < len(b.cues)-1 {
		b.due = b.clock + c.Follow
	}
	state, _ := cue.State(b.cues, number)
	for k, old := range b.runs {
		if slices.ContainsFunc(state, func(e api.Entry) bool { return e.Key == k }) || old.Ending {
			continue
		}
		if w.params[k].Group != api.Intensity {
			delete(b.runs, k)
			continue
		}
		b.runs[k] = api.Run{Key: k, Fade: w.fade(b, valueAt(old.Fade, b.clock), 0, c.Delay, c.Down, c.Curve), Claim: w.number, Ending: true}
	}
	for _, e := range state {
		to, _ := pick.Level(w.setup.Presets, e.Key, e.Value)
		old, there := b.runs[e.Key]
		if there && !old.Ending && old.Fade.To == to {
			continue
		}
		from := valueAt(old.Fade, b.clock)
		if !there {
			from = w.fresh(e.Key)
		}
		delay, time := w.timing(c, e.Key, from, to)
		b.runs[e.Key] = api.Run{Key: e.Key, Fade: w.fade(b, from, to, delay, time, c.Curve), Claim: w.number}
	}
	b.forget()
}

// fresh is the level from which a key begins that was not driven by the box.
func (w *world) fresh(k api.Key) int {
	if w.params[k].Group == api.Intensity {
		return 0
	}
	n, _ := w.levelOf(k)
	return n
}

// timing returns the delay and the time of a key that goes somewhere in a cue.
func (w *world) timing(c api.Cue, k api.Key, from, to int) (int, int) {
	p := w.params[k]
	delay, time := c.Delay, c.Up
	if to < from {
		time = c.Down
	}
	if p.Group != api.Intensity {
		time = c.Other
	}
	for _, m := range c.Moves {
		if m.Key == k && m.Timed {
			delay, time = m.Delay, m.Time
		}
	}
	if p.Snap {
		time = 0
	}
	return delay, time
}

// fade returns a fade on the clock of a box, which is cut.
func (w *world) fade(b *box, from, to, delay, time int, c api.Curve) api.Fade {
	f := api.Fade{From: from, To: to, Start: b.clock, Delay: delay, Time: time, Curve: c}
	if f.Start+f.Delay > 36000000 {
		f.Delay = 36000000 - f.Start
	}
	if f.Start+f.Delay+f.Time > 36000000 {
		f.Time = 36000000 - f.Start - f.Delay
	}
	return f
}

// levelOf returns the level of a key, and the playback that it is of.
func (w *world) levelOf(k api.Key) (int, int) {
	isLight := w.params[k].Group == api.Intensity
	type said struct{ priority, weight, number, n int }
	var all []said
	for _, b := range w.boxes {
		r, there := b.runs[k]
		if !there {
			continue
		}
		n := valueAt(r.Fade, b.clock)
		if isLight {
			n, _ = level.Scale(n, b.fader)
			all = append(all, said{b.Priority, n, b.Number, n})
		} else {
			all = append(all, said{b.Priority, r.Claim, b.Number, n})
		}
	}
	sort.Slice(all, func(i, j int) bool {
		a, b := all[i], all[j]
		if a.priority != b.priority {
			return a.priority > b.priority
		}
		return a.weight > b.weight || a.weight == b.weight && a.number < b.number
	})
	all = append(all, said{n: w.params[k].Default})
	n := all[0].n
	if isLight && w.black {
		n = 0
	} else if isLight {
		n, _ = level.Scale(n, w.grand)
	}
	return n, all[0].number
}

// box returns the box of a playback, or nil.
func (w *world) box(number int) *box {
	for i := range w.boxes {
		if w.boxes[i].Number == number {
			return &w.boxes[i]
		}
	}
	return nil
}

// done returns the world behind an action, or its fault.
func (w world) done(a api.Action) (world, api.Fault) {
	ofAll := a.Kind == api.ActGrand || a.Kind == api.ActBlack
	fault := first(
		rule{w.actions == 5000, api.ErrLarge},
		rule{outside(a.Kind, 1, 9), api.ErrKind},
		rule{ofAll && a.Playback != 0, api.ErrForm},
		rule{a.Kind != api.ActJump && a.Cue != 0, api.ErrForm},
		rule{a.Kind < api.ActRelease && a.Level != 0, api.ErrForm},
		rule{outside(a.Time, 0, 36000000), api.ErrRange},
		rule{a.Time < w.last, api.ErrOrder},
		rule{!ofAll && w.box(a.Playback) == nil, api.ErrNone},
		rule{(a.Kind == api.ActFader || a.Kind == api.ActGrand) && outside(a.Level, 0, 65535), api.ErrRange},
		rule{a.Kind == api.ActRelease && outside(a.Level, 0, 36000000), api.ErrRange},
		rule{a.Kind == api.ActBlack && outside(a.Level, 0, 1), api.ErrRange},
	)
	if fault != api.OK {
		return world{}, fault
	}
	w = w.until(a.Time)
	w.number++
	w.actions++
	w.last = a.Time
	b := w.box(a.Playback)
	if b == nil {
		b = &box{}
	}
	switch a.Kind {
	case api.ActGo, api.ActBack, api.ActJump:
		to := a.Cue
		if a.Kind == api.ActGo {
			to = b.beside(1)
		} else if a.Kind == api.ActBack {
			to = b.beside(-1)
		}
		if !slices.ContainsFunc(b.cues, func(c api.Cue) bool { return c.Number == to }) {
			return world{}, api.ErrNone
		}
		w.comeTo(b, to)
	case api.ActPause, api.ActResume:
		if b.stopped == (a.Kind == api.ActPause) || a.Kind == api.ActPause && b.cue == 0 {
			return world{}, api.ErrState
		}
		b.stopped = !b.stopped
	case api.ActRelease:
		if b.cue == 0 {
			return world{}, api.ErrState
		}
		w.letGo(b, a.Level)
	case api.ActFader:
		b.fader = a.Level
	case api.ActGrand:
		w.grand = a.Level
	case api.ActBlack:
		w.black = a.Level > 0
	}
	return w, api.OK
}

// letGo releases a box within a time.
func (w *world) letGo(b *box, time int) {
	b.cue, b.due, b.stopped = 0, -1, false
	for k, r := range b.runs {
		if w.params[k].Group == api.Intensity {
			b.runs[k] = api.Run{Key: k, Fade: w.fade(b, valueAt(r.Fade, b.clock), 0, 0, time, api.Curve{Kind: api.CurveLinear}), Claim: w.number, Ending: true}
		} else {
			delete(b.runs, k)
		}
	}
	b.forget()
}

// standing returns where a box stands.
func (w *world) standing(b *box) api.Standing {
	s := api.Standing{Playback: b.Number, Cue: b.cue, Fader: b.fader, Paused: b.stopped, Follow: -1}
	if b.due >= 0 && !b.stopped {
		s.Follow = w.time + b.due - b.clock
	}
	for _, r := range b.runs {
		s.Runs = append(s.Runs, r)
	}
	sort.Slice(s.Runs, func(i, j int) bool {
		a, b := s.Runs[i].Key, s.Runs[j].Key
		return a.Unit < b.Unit || a.Unit == b.Unit && a.Param < b.Param
	})
	return s
}

// rest returns how long the clock of a box goes until the last fade has ended.
func (b *box) rest() int {
	last := b.clock
	for _, r := range b.runs {
		last = max(last, r.Fade.Start+r.Fade.Delay+r.Fade.Time)
	}
	return last - b.clock
}
