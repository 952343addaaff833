package play_test

import (
	"fmt"
	"math"
	"math/rand/v2"
	"reflect"
	"sort"
	"strings"
	"testing"

	"cyclorama/api"
	"cyclorama/cue"
	"cyclorama/fixture"
	"cyclorama/play"
)

// chance makes things at random, which are the same ones each time: first such that have no errors, and then it spoils them.
type chance struct{ *rand.Rand }

func newChance(seed uint64) chance { return chance{rand.New(rand.NewPCG(seed, 6))} }

func choose[T any](c chance, l ...T) T { return l[c.IntN(len(l))] }

// time is mostly a short one, so that much happens within a short time.
func (c chance) time() int {
	if c.IntN(20) == 0 {
		return choose(c, 60000, api.MaxTime-20, api.MaxTime)
	}
	return choose(c, 0, 0, 1, 2, 5, 10, 20, c.IntN(30))
}

func (c chance) curve() api.Curve {
	kind := choose(c, api.CurveLinear, api.CurveLinear, api.CurveLinear, api.CurveSlow, api.CurveFast, api.CurveSoft, api.CurveStep, api.CurveTable)
	if kind != api.CurveTable {
		return api.Curve{Kind: kind}
	}
	return api.Curve{Kind: kind, Points: []api.Point{{}, {Time: 1 + c.IntN(998), Way: c.IntN(1001)}, {Time: 1000, Way: 1000}}}
}

// value is one that a key can have: few different ones, so that many are the same.
func (c chance) value(k api.Key, presets []api.Preset) api.Value {
	p := choose(c, presets...)
	for _, s := range p.Settings {
		if s.Key == k {
			return api.Value{Preset: p.Number}
		}
	}
	return api.Value{Level: choose(c, 0, 0, 7, 500, 30000, api.Full)}
}

func (c chance) move(k api.Key, presets []api.Preset) api.Move {
	m := api.Move{Key: k}
	if m.Release = c.IntN(3) == 0; !m.Release {
		m.Value = c.value(k, presets)
	}
	if m.Timed = c.IntN(4) == 0; m.Timed {
		m.Delay, m.Time = c.time(), c.time()
	}
	return m
}

// moves are moves of some keys of a rig.
func (c chance) moves(r api.Rig, presets []api.Preset) []api.Move {
	var l []api.Move
	keys, _ := fixture.Keys(r)
	often := 2 + c.IntN(3)
	for _, k := range keys {
		if c.IntN(often) == 0 {
			l = append(l, c.move(k, presets))
		}
	}
	sort.Slice(l, func(i, j int) bool {
		a, b := l[i].Key, l[j].Key
		return a.Unit < b.Unit || a.Unit == b.Unit && a.Param < b.Param
	})
	return l
}

func (c chance) cues(r api.Rig, presets []api.Preset) []api.Cue {
	var l []api.Cue
	for i := range c.IntN(6) {
		one := api.Cue{Number: 1000*i + choose(c, 1, 500, 1000), Delay: choose(c, 0, c.time()), Up: c.time(), Down: c.time(), Other: c.time(), Curve: c.curve()}
		one.Follow = choose(c, -1, -1, -1, 0, c.time(), c.time())
		one.Block = c.IntN(4) == 0
		one.Moves = c.moves(r, presets)
		l = append(l, one)
	}
	return l
}

func (c chance) setup() api.Setup {
	s := api.Setup{Rig: stage(), Presets: looks()}
	for i := range 1 + c.IntN(3) {
		s.Lists = append(s.Lists, api.List{Number: 10*i + choose(c, 1, 2, 10), Cues: c.cues(s.Rig, s.Presets)})
	}
	for i := range c.IntN(5) {
		s.Playbacks = append(s.Playbacks, api.Playback{Number: 10*i + choose(c, 1, 5, 10), List: choose(c, s.Lists...).Number, Priority: choose(c, 0, 0, 50, 100)})
	}
	return s
}

// action is one from a time on, which need not be right.
func (c chance) action(s api.Setup, time int) api.Action {
	kinds := []int{api.ActGo, api.ActGo, api.ActGo, api.ActGo, api.ActBack, api.ActJump, api.ActJump, api.ActPause, api.ActResume, api.ActRelease, api.ActFader, api.ActGrand, api.ActBlack}
	a := api.Action{Time: min(api.MaxTime, time+choose(c, 0, 1, 5, 10, c.IntN(30))), Kind: choose(c, kinds...)}
	if len(s.Playbacks) > 0 && a.Kind != api.ActGrand && a.Kind != api.ActBlack {
		a.Playback = choose(c, s.Playbacks...).Number
	}
	switch a.Kind {
	case api.ActJump:
		a.Cue = choose(c, 1, 500, 1000, 1500, 2000, 2001, 3000, 3500)
	case api.ActRelease:
		a.Level = c.time()
	case api.ActFader, api.ActGrand:
		a.Level = choose(c, 0, 1, 32768, 65534, api.Full, api.Full, api.Full)
	case api.ActBlack:
		a.Level = c.IntN(2)
	}
	if c.IntN(20) == 0 {
		c.spoil(&a)
	}
	// A world would need too long for a time that is right, but far away.
	if a.Time > time+1000 && a.Time <= api.MaxTime {
		a.Time = time
	}
	return a
}

// parts are the numbers, texts, switches and slices of which a value consists.
type parts struct{ numbers, texts, switches, lists []reflect.Value }

func (p *parts) add(v reflect.Value) {
	switch v.Kind() {
	case reflect.Struct:
		for i := range v.NumField() {
			p.add(v.Field(i))
		}
	case reflect.Slice:
		p.lists = append(p.lists, v)
		for i := range v.Len() {
			p.add(v.Index(i))
		}
	case reflect.Int:
		p.numbers = append(p.numbers, v)
	case reflect.String:
		p.texts = append(p.texts, v)
	case reflect.Bool:
		p.switches = append(p.switches, v)
	}
}

// spoil changes something of a value, which need not become wrong by it: to is a pointer to it.
func (c chance) spoil(to any) {
	var p parts
	p.add(reflect.ValueOf(to).Elem())
	switch n := c.IntN(10); {
	case n < 6 && len(p.numbers) > 0 || len(p.lists) == 0:
		v := choose(c, p.numbers...)
		v.SetInt(choose(c, -2, -1, 0, 1, 2, 3, 8, 9, 10, 40, 41, 100, 101, 999, 1000, api.Full, api.Full+1, api.MaxTime, api.MaxTime+1, math.MinInt, math.MaxInt, v.Int()-1, v.Int()+1, choose(c, p.numbers...).Int()))
	case n < 7 && len(p.switches) > 0:
		v := choose(c, p.switches...)
		v.SetBool(!v.Bool())
	case n < 8 && len(p.texts) > 0:
		v := choose(c, p.texts...)
		v.SetString(choose(c, "", "A", "dim", "pan", "colour", "-", " a", strings.Repeat("x", 21), choose(c, p.texts...).String()))
	case len(p.lists) > 0:
		c.spoilList(choose(c, p.lists...))
	}
}

// spoilList leaves out an element, exchanges two, or doubles one.
func (c chance) spoilList(v reflect.Value) {
	if v.Len() == 0 {
		return
	}
	i, j := c.IntN(v.Len()), c.IntN(v.Len())
	switch c.IntN(3) {
	case 0:
		v.Set(reflect.AppendSlice(v.Slice(0, i), v.Slice(i+1, v.Len())))
	case 1:
		a, b := reflect.ValueOf(v.Index(i).Interface()), reflect.ValueOf(v.Index(j).Interface())
		v.Index(i).Set(b)
		v.Index(j).Set(a)
	case 2:
		v.Set(reflect.Append(v, v.Index(i)))
	}
}

// faults counts the faults that calls gave, to know that they came at all.
type faults map[api.Fault]int

// met checks that each one of the faults came at least three times.
func (f faults) met(t *testing.T, wanted ...api.Fault) {
	t.Helper()
	for _, w := range wanted {
		if f[w] < 3 {
			t.Errorf("the fault %d came only %d times", w, f[w])
		}
	}
}

func TestRandomSetups(t *testing.T) {
	c := newChance(1)
	came := faults{}
	for range 5000 {
		s := copied(c.setup(), roomy)
		for range c.IntN(3) {
			switch c.IntN(4) {
			case 0:
				c.spoil(&s)
			case 1:
				c.spoil(&s.Lists)
			default:
				c.spoil(&s.Playbacks)
			}
		}
		want := setupFault(s)
		came[want]++
		same(t, "CheckSetup", play.CheckSetup(s), want)
		d, fault := play.New(s)
		same(t, "New", results(d != nil, fault), results(want == api.OK, want))
		if t.Failed() {
			t.Fatalf("%+v", s)
		}
	}
	came.met(t, api.OK, api.ErrRange, api.ErrOrder, api.ErrForm, api.ErrKind, api.ErrName, api.ErrNone, api.ErrTwice, api.ErrClash)
}

// agree checks that a desk says what a world does, which stands at the same time.
func agree(t *testing.T, d *play.Desk, w world) {
	t.Helper()
	var settings []api.Setting
	keys, _ := fixture.Keys(w.setup.Rig)
	for _, k := range keys {
		n, owner := w.levelOf(k)
		settings = append(settings, api.Setting{Key: k, Level: n})
		same(t, fmt.Sprint("Level of ", k, " at ", w.time), results(d.Level(k, w.time)), results(n, api.OK))
		same(t, fmt.Sprint("Owner of ", k, " at ", w.time), results(d.Owner(k, w.time)), results(owner, api.OK))
	}
	same(t, fmt.Sprint("Levels at ", w.time), results(d.Levels(w.time)), results(settings, api.OK))
	for _, p := range w.setup.Playbacks {
		b := w.box(p.Number)
		same(t, fmt.Sprint("Standing at ", w.time), results(d.Standing(p.Number, w.time)), results(w.standing(b), api.OK))
		same(t, fmt.Sprint("Next at ", w.time), results(d.Next(p.Number, w.time)), results(b.beside(1), api.OK))
		same(t, fmt.Sprint("Rest at ", w.time), results(d.Rest(p.Number, w.time)), results(b.rest(), api.OK))
	}
}

// TestRandomActions does actions on desks and in worlds. Worlds begin shortly ahead of the first action, which can be one of the last moments.
func TestRandomActions(t *testing.T) {
	c := newChance(2)
	came := faults{}
	for range 1500 {
		s := c.setup()
		base := choose(c, 0, 0, 0, 1000, api.MaxTime-100)
		d, _ := play.New(s)
		w := newWorld(s, base)
		var l []api.Action
		for range 1 + c.IntN(25) {
			a := c.action(s, max(base, w.last))
			if a.Time < base {
				continue
			}
			next, want := w.done(a)
			came[want]++
			same(t, "Do", d.Do(a), want)
			if want == api.OK {
				w = next
				l = append(l, a)
			}
			if c.IntN(3) == 0 {
				later := w.until(min(api.MaxTime, w.time+c.IntN(40)))
				agree(t, d, later)
			}
			if t.Failed() {
				t.Fatalf("%+v %+v %+v %+v", s.Lists, s.Playbacks, l, a)
			}
		}
		same(t, "Time and Actions", results(d.Time(), d.Actions()), results(w.last, l))
		// What is done again, and not asked between, comes to the same.
		again, i, fault := play.Replay(s, l)
		same(t, "Replay", results(i, fault), results(0, api.OK))
		agree(t, again, w.until(w.time))
	}
	came.met(t, api.OK, api.ErrRange, api.ErrForm, api.ErrKind, api.ErrOrder, api.ErrNone, api.ErrState)
}

// TestRandomReplays looks at where Replay stops.
func TestRandomReplays(t *testing.T) {
	c := newChance(3)
	came := faults{}
	for range 1500 {
		s := c.setup()
		w := newWorld(s, 0)
		var l []api.Action
		at, want := 0, api.OK
		for i := range c.IntN(12) {
			a := c.action(s, w.last)
			l = append(l, a)
			if want == api.OK {
				var next world
				if next, want = w.done(a); want == api.OK {
					w = next
				} else {
					at = i
				}
			}
		}
		came[want]++
		d, i, fault := play.Replay(s, copied(l, roomy))
		same(t, fmt.Sprintf("Replay of %+v %+v %+v", s.Lists, s.Playbacks, l), results(d != nil, i, fault), results(want == api.OK, at, want))
	}
	came.met(t, api.OK, api.ErrRange, api.ErrForm, api.ErrKind, api.ErrOrder, api.ErrNone, api.ErrState)
}

// TestRandomShows looks at the levels of playbacks of the same list, which are those of chapter 5 as soon as fades have ended.
func TestRandomShows(t *testing.T) {
	c := newChance(4)
	for range 500 {
		s := c.setup()
		for _, p := range s.Playbacks {
			for _, l := range s.Lists {
				if l.Number != p.List {
					continue
				}
				for i := range l.Cues {
					l.Cues[i].Follow = -1
				}
				for _, one := range l.Cues {
					d := replay(t, s, jump(0, p.Number, choose(c, l.Cues...).Number), jump(0, p.Number, one.Number))
					want, _ := cue.Levels(s.Rig, s.Presets, l.Cues, one.Number)
					same(t, fmt.Sprintf("Levels of %+v in %+v", one, l), results(d.Levels(api.MaxTime)), results(want, api.OK))
				}
			}
		}
	}
}
