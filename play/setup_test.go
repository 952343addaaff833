package play_test

import (
	"testing"

	"cyclorama/api"
	"cyclorama/play"
)

const one = "cue 1\n  1.dim full\n"

// many is a setup with as many lists as can be, each played by one playback, and ten playbacks more.
func many(t *testing.T, lists, playbacks int) api.Setup {
	s := setup(t)
	for i := range lists {
		s.Lists = append(s.Lists, api.List{Number: 999 - lists + i + 1})
	}
	for i := range playbacks {
		s.Playbacks = append(s.Playbacks, api.Playback{Number: i + 1, List: 999, Priority: i * 2})
	}
	return s
}

// TestSetups looks at the faults of setups one by one: each row changes a setup that is right (P1).
func TestSetups(t *testing.T) {
	rows := []struct {
		name   string
		change func(s *api.Setup)
		want   api.Fault
	}{
		{"right", func(s *api.Setup) {}, api.OK},
		{"a rig that is wrong", func(s *api.Setup) { s.Rig.Units[0].Profile = "x" }, api.ErrName},
		{"presets that are wrong", func(s *api.Setup) { s.Presets[0].Number = 0 }, api.ErrRange},
		{"a preset of another rig", func(s *api.Setup) { s.Presets[0].Settings[0].Key.Unit = 2 }, api.ErrNone},
		{"the list 0", func(s *api.Setup) { s.Lists[0].Number = 0 }, api.ErrRange},
		{"the list -1", func(s *api.Setup) { s.Lists[0].Number = -1 }, api.ErrRange},
		{"the list 999", func(s *api.Setup) { s.Lists[1].Number, s.Playbacks[1].List = 999, 999 }, api.OK},
		{"the list 1000", func(s *api.Setup) { s.Lists[1].Number, s.Playbacks[1].List = 1000, 1000 }, api.ErrRange},
		{"lists twice", func(s *api.Setup) { s.Lists[1].Number = 1 }, api.ErrOrder},
		{"lists in another order", func(s *api.Setup) { s.Lists[0].Number = 3 }, api.ErrOrder},
		{"cues that are wrong", func(s *api.Setup) { s.Lists[1].Cues[0].Curve.Kind = 7 }, api.ErrKind},
		{"a move that the rig does not have", func(s *api.Setup) { s.Lists[0].Cues[0].Moves[0].Key.Unit = 2 }, api.ErrNone},
		{"a preset that is not there", func(s *api.Setup) { s.Lists[0].Cues[0].Moves[0].Value = api.Value{Preset: 2} }, api.ErrNone},
		{"no lists", func(s *api.Setup) { s.Lists = nil }, api.ErrNone},
		{"no playbacks", func(s *api.Setup) { s.Playbacks = nil }, api.OK},
		{"no lists and playbacks", func(s *api.Setup) { s.Lists, s.Playbacks = nil, nil }, api.OK},
		{"the playback 0", func(s *api.Setup) { s.Playbacks[0].Number = 0 }, api.ErrRange},
		{"the playback 40", func(s *api.Setup) { s.Playbacks[1].Number = 40 }, api.OK},
		{"the playback 41", func(s *api.Setup) { s.Playbacks[1].Number = 41 }, api.ErrRange},
		{"playbacks twice", func(s *api.Setup) { s.Playbacks[1].Number = 1 }, api.ErrOrder},
		{"playbacks in another order", func(s *api.Setup) { s.Playbacks[0].Number = 3 }, api.ErrOrder},
		{"a playback of no list", func(s *api.Setup) { s.Playbacks[1].List = 3 }, api.ErrNone},
		{"a playback of the list 0", func(s *api.Setup) { s.Playbacks[0].List = 0 }, api.ErrNone},
		{"two playbacks of one list", func(s *api.Setup) { s.Playbacks[1].List = 1 }, api.OK},
		{"the priority -1", func(s *api.Setup) { s.Playbacks[0].Priority = -1 }, api.ErrRange},
		{"the priority 100", func(s *api.Setup) { s.Playbacks[0].Priority = 100 }, api.OK},
		{"the priority 101", func(s *api.Setup) { s.Playbacks[1].Priority = 101 }, api.ErrRange},
	}
	for _, r := range rows {
		s := setup(t, one, one)
		r.change(&s)
		same(t, r.name, play.CheckSetup(s), r.want)
		d, fault := play.New(s)
		same(t, "New: "+r.name, results(d != nil, fault), results(r.want == api.OK, r.want))
		d, i, fault := play.Replay(s, []api.Action{{Kind: 99}})
		want := r.want
		if want == api.OK {
			want = api.ErrKind
		}
		same(t, "Replay: "+r.name, results(d == nil, i, fault), results(true, 0, want))
	}
}

// TestSetupLimits looks at how many lists and playbacks there can be (P1).
func TestSetupLimits(t *testing.T) {
	same(t, "all", play.CheckSetup(many(t, 30, 40)), api.OK)
	same(t, "31 lists", play.CheckSetup(many(t, 31, 40)), api.ErrLarge)
	same(t, "41 playbacks", play.CheckSetup(many(t, 30, 41)), api.ErrLarge)
}

// TestSetupOrder spoils a setup further and further from its end: the fault that comes first counts (P1).
func TestSetupOrder(t *testing.T) {
	s := many(t, 30, 40)
	spoil := func(name string, want api.Fault, change func()) {
		t.Helper()
		change()
		same(t, name, play.CheckSetup(s), want)
	}
	spoil("the priority of the last playback", api.ErrRange, func() { s.Playbacks[39].Priority = 101 })
	spoil("its list", api.ErrNone, func() { s.Playbacks[39].List = 1 })
	spoil("its place", api.ErrOrder, func() { s.Playbacks[39].Number = 39 })
	spoil("its number", api.ErrRange, func() { s.Playbacks[39].Number = 0 })
	spoil("the list of the one ahead", api.ErrNone, func() { s.Playbacks[38].List = 1 })
	spoil("too many playbacks", api.ErrLarge, func() { s.Playbacks = append(s.Playbacks, api.Playback{}) })
	spoil("the cues of the last list", api.ErrKind, func() { s.Lists[29].Cues = []api.Cue{{Number: 1}} })
	spoil("its place", api.ErrOrder, func() { s.Lists[29].Number = 998 })
	spoil("its number", api.ErrRange, func() { s.Lists[29].Number = 1000 })
	spoil("the cues of the one ahead", api.ErrKind, func() { s.Lists[28].Cues = []api.Cue{{Number: 1}} })
	spoil("too many lists", api.ErrLarge, func() { s.Lists = append(s.Lists, api.List{}) })
	spoil("a preset", api.ErrForm, func() { s.Presets[1].Title = " " })
	spoil("the rig", api.ErrClash, func() { s.Rig.Units[1].Address = 2 })
}

// TestNew looks at what a desk is like with which nothing was done (P1).
func TestNew(t *testing.T) {
	s := setup(t, "cue 1 follow 0\n  1.dim full\ncue 2\n", "")
	d, fault := play.New(s)
	same(t, "New", fault, api.OK)
	same(t, "Time and Actions", results(d.Time(), d.Actions()), results(0, []api.Action(nil)))
	for _, time := range []int{0, 1, api.MaxTime} {
		same(t, "Standing", results(d.Standing(1, time)), results(api.Standing{Playback: 1, Fader: api.Full, Follow: -1}, api.OK))
		same(t, "Rest", results(d.Rest(1, time)), results(0, api.OK))
		same(t, "Next", results(d.Next(1, time)), results(1000, api.OK))
		same(t, "Next of an empty list", results(d.Next(2, time)), results(0, api.OK))
		same(t, "Owner", results(d.Owner(house, time)), results(0, api.OK))
		want := []api.Setting{{Key: pan, Level: 500}, {Key: dim}, {Key: gobo, Level: 7}, {Key: flash}, {Key: house, Level: 40000}, {Key: key(3, "colour")},
			{Key: key(10, "pan"), Level: 500}, {Key: key(10, "dim")}, {Key: key(10, "gobo"), Level: 7}, {Key: key(10, "flash")}}
		same(t, "Levels", results(d.Levels(time)), results(want, api.OK))
	}
}
