package play_test

import (
	"fmt"
	"math"
	"testing"

	"cyclorama/api"
	"cyclorama/play"
)

const three = "cue 1 up 1\n  1.dim full\n  1.pan full\ncue 2 down 0.5\n  1.dim 50%\ncue 4.5\n  1.dim out\n"

// look is all that a desk says at a time.
func look(d *play.Desk, time int) []any {
	l := results(d.Time(), d.Actions())
	l = append(l, results(d.Levels(time))...)
	for p := range 4 {
		l = append(l, results(d.Standing(p, time))...)
		l = append(l, results(d.Next(p, time))...)
		l = append(l, results(d.Rest(p, time))...)
	}
	keys, _ := d.Levels(time)
	for _, s := range keys {
		l = append(l, results(d.Owner(s.Key, time))...)
	}
	return l
}

// TestActionFaults looks at each fault of an action by itself: all of them leave the desk as it is (P2).
func TestActionFaults(t *testing.T) {
	rows := []struct {
		name string
		a    api.Action
		want api.Fault
	}{
		{"no kind", api.Action{Time: 500, Playback: 1}, api.ErrKind},
		{"the kind -1", api.Action{Time: 500, Kind: -1, Playback: 1}, api.ErrKind},
		{"the kind 10", api.Action{Time: 500, Kind: 10, Playback: 1}, api.ErrKind},
		{"a time ahead", goes(499, 1), api.ErrOrder},
		{"a time below 0", goes(-1, 1), api.ErrRange},
		{"a time that is too great", goes(api.MaxTime+1, 1), api.ErrRange},
		{"no playback", goes(500, 0), api.ErrNone},
		{"another playback", goes(500, 3), api.ErrNone},
		{"a playback below 0", fader(500, -1, 0), api.ErrNone},
		{"back from nowhere", back(500, 2), api.ErrNone},
		{"back from the first one", back(500, 1), api.ErrNone},
		{"jump to no cue", jump(500, 1, 4000), api.ErrNone},
		{"jump to the cue 0", jump(500, 1, 0), api.ErrNone},
		{"pause nowhere", pause(500, 2), api.ErrState},
		{"resume nowhere", resume(500, 2), api.ErrState},
		{"resume what goes", resume(500, 1), api.ErrState},
		{"release nowhere", release(500, 2, 0), api.ErrState},
		{"release below 0", release(500, 1, -1), api.ErrRange},
		{"release for too long", release(500, 1, api.MaxTime+1), api.ErrRange},
		{"a fader below 0", fader(500, 1, -1), api.ErrRange},
		{"a fader above full", fader(500, 1, api.Full+1), api.ErrRange},
		{"a master below 0", grand(500, -1), api.ErrRange},
		{"a master above full", grand(500, api.Full+1), api.ErrRange},
		{"black -1", black(500, -1), api.ErrRange},
		{"black 2", black(500, 2), api.ErrRange},
	}
	for _, r := range rows {
		d := replay(t, setup(t, three, three), goes(500, 1))
		before := look(d, 700)
		same(t, r.name, d.Do(r.a), r.want)
		same(t, r.name+": the desk", look(d, 700), before)
		none, i, fault := play.Replay(setup(t, three, three), []api.Action{goes(500, 1), r.a, {}})
		same(t, r.name+": Replay", results(none == nil, i, fault), results(true, 1, r.want))
	}
}

// TestActionForms looks at which fields which kinds use (P2).
func TestActionForms(t *testing.T) {
	for kind := api.ActGo; kind <= api.ActBlack; kind++ {
		ofPlayback := kind != api.ActGrand && kind != api.ActBlack
		for _, a := range []api.Action{{Playback: 1}, {Cue: 1}, {Level: 1}, {Playback: 7}, {Cue: -1}, {Level: -1}} {
			wrong := a.Playback != 0 && !ofPlayback || a.Cue != 0 && kind != api.ActJump || a.Level != 0 && kind < api.ActRelease
			a.Kind = kind
			if a.Playback == 0 && ofPlayback {
				a.Playback = 1
			}
			fault := replay(t, setup(t, three)).Do(a)
			same(t, fmt.Sprintf("%+v: ErrForm", a), fault == api.ErrForm, wrong)
			// A form that is wrong comes ahead of all but the kind.
			a.Time = math.MinInt
			want := api.ErrRange
			if wrong {
				want = api.ErrForm
			}
			same(t, fmt.Sprintf("%+v", a), replay(t, setup(t, three)).Do(a), want)
		}
	}
}

// TestActionOrder looks at which of several faults comes first (P2).
func TestActionOrder(t *testing.T) {
	rows := []struct {
		name string
		a    api.Action
		want api.Fault
	}{
		{"the kind", api.Action{Time: -1, Kind: 10, Playback: 9, Cue: 1, Level: -1}, api.ErrKind},
		{"the form", api.Action{Time: -1, Kind: api.ActFader, Playback: 9, Cue: 1, Level: -1}, api.ErrForm},
		{"the time", api.Action{Time: -1, Kind: api.ActFader, Playback: 9, Level: -1}, api.ErrRange},
		{"the order", api.Action{Time: 499, Kind: api.ActFader, Playback: 9, Level: -1}, api.ErrOrder},
		{"the playback", api.Action{Time: 500, Kind: api.ActFader, Playback: 9, Level: -1}, api.ErrNone},
		{"the level", api.Action{Time: 500, Kind: api.ActRelease, Playback: 2, Level: -1}, api.ErrRange},
		{"the state", api.Action{Time: 500, Kind: api.ActRelease, Playback: 2, Level: 1}, api.ErrState},
	}
	for _, r := range rows {
		d := replay(t, setup(t, three, three), goes(500, 1))
		same(t, r.name, d.Do(r.a), r.want)
	}
}

// TestManyActions looks at how many actions there can be: those with faults do not count, nor do follows (P2).
func TestManyActions(t *testing.T) {
	var l []api.Action
	for i := range api.MaxActions {
		l = append(l, fader(i/2, 1, i))
	}
	l[10] = goes(l[10].Time, 1)
	s := setup(t, "cue 1 follow 0.001\n  1.dim full\ncue 2\n  1.dim 1%\n")
	d := replay(t, s, l[:api.MaxActions-1]...)
	same(t, "Do with a fault", d.Do(api.Action{}), api.ErrKind)
	same(t, "Do as the last one", d.Do(l[api.MaxActions-1]), api.OK)
	same(t, "Do of one more", results(d.Do(l[0]), d.Do(api.Action{})), results(api.ErrLarge, api.ErrLarge))
	same(t, "Actions", d.Actions(), l)
	same(t, "Time", d.Time(), 2499)
	stands(t, d, 1, 2499, 2000, -1, run(dim, api.Full, 655, 6, 0, 0, 13))
	none, i, fault := play.Replay(s, append(l, api.Action{}))
	same(t, "Replay of one more", results(none == nil, i, fault), results(true, api.MaxActions, api.ErrLarge))
	same(t, "Actions of Replay", replay(t, s, l...).Actions(), l)
}

// TestGoing goes on, back and elsewhere in a list (P2).
func TestGoing(t *testing.T) {
	d := replay(t, setup(t, three))
	at := func(name string, a api.Action, want api.Fault, number, next int) {
		t.Helper()
		same(t, name, d.Do(a), want)
		s, _ := d.Standing(1, a.Time)
		n, fault := d.Next(1, a.Time)
		same(t, name+": the cue and the next one", results(s.Cue, n, fault), results(number, next, api.OK))
	}
	at("go from nowhere", goes(0, 1), api.OK, 1000, 2000)
	at("go on", goes(1, 1), api.OK, 2000, 4500)
	at("go on to the last one", goes(2, 1), api.OK, 4500, 0)
	at("go on behind it", goes(3, 1), api.ErrNone, 4500, 0)
	at("back", back(4, 1), api.OK, 2000, 4500)
	at("jump to the first one", jump(5, 1, 1000), api.OK, 1000, 2000)
	at("jump to the same", jump(6, 1, 1000), api.OK, 1000, 2000)
	at("back from the first one", back(7, 1), api.ErrNone, 1000, 2000)
	at("jump to the last one", jump(8, 1, 4500), api.OK, 4500, 0)
	at("release", release(9, 1, 10), api.OK, 0, 1000)
	at("back from nowhere", back(10, 1), api.ErrNone, 0, 1000)
	at("jump from nowhere", jump(11, 1, 2000), api.OK, 2000, 4500)
	at("jump elsewhere", jump(12, 1, 3000), api.ErrNone, 2000, 4500)
	same(t, "Time", d.Time(), 11)
	same(t, "go in an empty list", replay(t, setup(t, "")).Do(goes(0, 1)), api.ErrNone)
}

// TestNumbers looks at the numbers of actions and follows, which runs have as their claims (P2).
func TestNumbers(t *testing.T) {
	d := replay(t, setup(t, "cue 1 follow 0.01\n  1.dim 1%\ncue 2\n  1.dim 2%\ncue 3\n  1.dim 3%\n"), grand(0, 5), black(0, 1), goes(5, 1))
	claim := func(time, want int) {
		t.Helper()
		s, _ := d.Standing(1, time)
		same(t, fmt.Sprint("the claim at ", time), s.Runs[0].Claim, want)
	}
	claim(5, 3)
	claim(14, 3)
	claim(15, 4)
	same(t, "an action with a fault", d.Do(jump(20, 1, 7)), api.ErrNone)
	same(t, "an action without one", d.Do(pause(20, 1)), api.OK)
	same(t, "an action behind it", d.Do(goes(20, 1)), api.OK)
	claim(20, 6)
}

// TestFollowsOfFaults looks at the follows ahead of an action that has a fault: they are not done by it (P2, P5).
func TestFollowsOfFaults(t *testing.T) {
	d := replay(t, setup(t, "cue 1 follow 0.01\n  1.dim 1%\ncue 2\n  1.dim 2%\n"), goes(0, 1))
	before := append(look(d, 9), look(d, 10)...)
	same(t, "go behind the follow", d.Do(goes(10, 1)), api.ErrNone)
	same(t, "back ahead of the follow", d.Do(back(9, 1)), api.ErrNone)
	same(t, "the desk", append(look(d, 9), look(d, 10)...), before)
	same(t, "back behind the follow", d.Do(back(10, 1)), api.OK)
	stands(t, d, 1, 10, 1000, 20, run(dim, 1311, 655, 10, 0, 0, 3))
}

// TestForms looks at actions by themselves: whether they use the right fields, of which kinds are of a playback, and which levels they can have (P2).
func TestForms(t *testing.T) {
	rows := []struct {
		a     api.Action
		form  api.Fault
		of    bool
		level api.Fault
	}{
		{goes(0, 1), api.OK, true, api.OK},
		{api.Action{Kind: api.ActGo, Level: 1}, api.ErrForm, true, api.OK},
		{api.Action{Kind: api.ActBack, Cue: 1}, api.ErrForm, true, api.OK},
		{jump(-1, 99, -1), api.OK, true, api.OK},
		{release(0, 1, api.MaxTime), api.OK, true, api.OK},
		{release(0, 1, api.MaxTime+1), api.OK, true, api.ErrRange},
		{fader(0, 0, api.Full), api.OK, true, api.OK},
		{fader(0, 0, api.Full+1), api.OK, true, api.ErrRange},
		{grand(0, -1), api.OK, false, api.ErrRange},
		{api.Action{Kind: api.ActGrand, Playback: 1}, api.ErrForm, false, api.OK},
		{black(0, 1), api.OK, false, api.OK},
		{black(0, 2), api.OK, false, api.ErrRange},
		{api.Action{Kind: 10, Cue: 1}, api.ErrKind, true, api.OK},
		{api.Action{Cue: 1}, api.ErrKind, true, api.OK},
	}
	for _, r := range rows {
		same(t, fmt.Sprintf("CheckForm, OfPlayback and CheckLevel of %+v", r.a), results(play.CheckForm(r.a), play.OfPlayback(r.a), play.CheckLevel(r.a)), results(r.form, r.of, r.level))
	}
}
