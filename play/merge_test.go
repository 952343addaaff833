package play_test

import (
	"math"
	"testing"

	"cyclorama/api"
	"cyclorama/play"
)

// owners checks whose level a key has at a time, and the level.
func owners(t *testing.T, d *play.Desk, k api.Key, time, owner, n int) {
	t.Helper()
	same(t, "Owner", results(d.Owner(k, time)), results(owner, api.OK))
	same(t, "Level", results(d.Level(k, time)), results(n, api.OK))
}

// TestGreatest looks at intensities of several playbacks: the greatest one counts, with faders (P6).
func TestGreatest(t *testing.T) {
	s := setup(t, "cue 1\n  1.dim 50%\n  3.dim 10%\n", "cue 1\n  1.dim full\n", "cue 1\n  1.dim 25%\n")
	d := replay(t, s, goes(0, 3))
	owners(t, d, dim, 0, 3, 16384)
	same(t, "go", results(d.Do(goes(1, 2)), d.Do(goes(2, 1))), results(api.OK, api.OK))
	owners(t, d, dim, 2, 2, api.Full)
	same(t, "fader", d.Do(fader(3, 2, 40000)), api.OK)
	owners(t, d, dim, 3, 2, 40000)
	same(t, "fader", d.Do(fader(3, 2, 32768)), api.OK)
	owners(t, d, dim, 3, 1, 32768)
	same(t, "fader", d.Do(fader(4, 1, 32768)), api.OK)
	owners(t, d, dim, 4, 2, 32768)
	same(t, "fader", d.Do(fader(4, 2, 1)), api.OK)
	owners(t, d, dim, 4, 1, 16384)
	same(t, "fader", d.Do(fader(5, 3, 65534)), api.OK)
	owners(t, d, dim, 5, 1, 16384)
	same(t, "faders", results(d.Do(fader(6, 1, 0)), d.Do(fader(6, 2, 0)), d.Do(fader(6, 3, 0))), results(api.OK, api.OK, api.OK))
	owners(t, d, dim, 6, 1, 0)
	// Who drives a key that is out counts, and not its Default.
	owners(t, d, house, 6, 1, 0)
	s2, _ := d.Standing(1, 6)
	same(t, "Fader", s2.Fader, 0)
	// Runs are without faders.
	same(t, "the run", s2.Runs[0], run(dim, 0, 32768, 2, 0, 0, 3))
	same(t, "release", d.Do(release(7, 1, 0)), api.OK)
	owners(t, d, house, 7, 0, 40000)
	owners(t, d, dim, 7, 2, 0)
}

// TestLatest looks at keys of other groups: that which was claimed last counts (P6).
func TestLatest(t *testing.T) {
	s := setup(t, "cue 1 other 1\n  1.pan 10%\ncue 2\n  1.dim full\ncue 3\n  1.pan 50%\n", "cue 1\n  1.pan 20%\n", "cue 1\n  1.pan 30%\ncue 2\n")
	d := replay(t, s, goes(0, 2), goes(0, 3), goes(0, 1))
	owners(t, d, pan, 0, 1, 19661)
	owners(t, d, pan, 500, 1, 13108)
	// Neither faders nor masters count.
	same(t, "faders and masters", results(d.Do(fader(500, 1, 0)), d.Do(grand(500, 0)), d.Do(black(500, 1))), results(api.OK, api.OK, api.OK))
	owners(t, d, pan, 500, 1, 13108)
	// A cue that does not move the key claims nothing.
	same(t, "go", d.Do(goes(500, 3)), api.OK)
	owners(t, d, pan, 500, 1, 13108)
	same(t, "go", d.Do(jump(600, 2, 1000)), api.OK)
	owners(t, d, pan, 600, 1, 11797)
	same(t, "release", d.Do(release(600, 1, 1000)), api.OK)
	owners(t, d, pan, 600, 3, 19661)
	same(t, "release", d.Do(release(601, 3, 1000)), api.OK)
	owners(t, d, pan, 601, 2, 13107)
	same(t, "release", d.Do(release(602, 2, 1000)), api.OK)
	owners(t, d, pan, 602, 0, 500)
}

// TestPriorities looks at playbacks with priorities: only the greatest one of those that drive a key counts (P6).
func TestPriorities(t *testing.T) {
	s := setup(t, "cue 1\n  1.dim full\n  1.pan full\n  3.dim full\n", "cue 1 up 1\n  1.dim 10%\n  1.pan 10%\ncue 2 down 1\n  1.dim release\n  1.pan release\n", "cue 1\n  1.dim 5%\n  1.pan 5%\n")
	s.Playbacks[0].Priority, s.Playbacks[1].Priority, s.Playbacks[2].Priority = 1, 100, 100
	d := replay(t, s, goes(0, 2), goes(0, 1))
	owners(t, d, dim, 0, 2, 0)
	owners(t, d, dim, 1000, 2, 6554)
	owners(t, d, pan, 1000, 2, 6554)
	owners(t, d, house, 1000, 1, api.Full)
	same(t, "go", d.Do(goes(1000, 3)), api.OK)
	owners(t, d, dim, 1000, 2, 6554)
	owners(t, d, pan, 1000, 3, 3277)
	same(t, "fader", d.Do(fader(1000, 2, 0)), api.OK)
	owners(t, d, dim, 1000, 3, 3277)
	same(t, "release", d.Do(release(1000, 3, 0)), api.OK)
	owners(t, d, dim, 1000, 2, 0)
	owners(t, d, pan, 1000, 2, 6554)
	// What is ending drives a key until it is gone.
	same(t, "go", results(d.Do(fader(1000, 2, api.Full)), d.Do(goes(2000, 2))), results(api.OK, api.OK))
	owners(t, d, pan, 2000, 1, api.Full)
	owners(t, d, dim, 2000, 2, 6554)
	owners(t, d, dim, 2999, 2, 7)
	owners(t, d, dim, 3000, 1, api.Full)
}

// TestMasters looks at the grand master and black, which count for intensities alone (P6).
func TestMasters(t *testing.T) {
	d := replay(t, setup(t, "cue 1\n  1.dim full\n  1.pan full\n"), goes(0, 1), fader(0, 1, 32768), grand(1, 32768))
	owners(t, d, dim, 1, 1, 16384)
	owners(t, d, pan, 1, 1, api.Full)
	// The Default of an intensity is an intensity, too.
	owners(t, d, house, 1, 0, 20000)
	same(t, "black", d.Do(black(2, 1)), api.OK)
	owners(t, d, dim, 2, 1, 0)
	owners(t, d, pan, 2, 1, api.Full)
	owners(t, d, house, 2, 0, 0)
	same(t, "grand", d.Do(grand(3, api.Full)), api.OK)
	owners(t, d, dim, 3, 1, 0)
	same(t, "light", d.Do(black(4, 0)), api.OK)
	owners(t, d, dim, 4, 1, 32768)
	owners(t, d, house, 4, 0, 40000)
	same(t, "Levels", results(d.Levels(4)), results([]api.Setting{{Key: pan, Level: api.Full}, {Key: dim, Level: 32768}, {Key: gobo, Level: 7}, {Key: flash}, {Key: house, Level: 40000}, {Key: key(3, "colour")},
		{Key: key(10, "pan"), Level: 500}, {Key: key(10, "dim")}, {Key: key(10, "gobo"), Level: 7}, {Key: key(10, "flash")}}, api.OK))
}

// TestQuestions looks at the faults of all methods that ask for a time (P6, P7).
func TestQuestions(t *testing.T) {
	d := replay(t, setup(t, "cue 1\n  1.dim full\n"), goes(500, 1))
	ask := func(time int, want api.Fault) {
		t.Helper()
		for _, k := range []api.Key{dim, {}, {Unit: 1, Param: "x"}, {Unit: 2, Param: "dim"}} {
			keyed := want
			if want == api.OK && k != dim {
				keyed = api.ErrNone
			}
			n, owner := 0, 0
			if keyed == api.OK {
				n, owner = api.Full, 1
			}
			same(t, "Level", results(d.Level(k, time)), results(n, keyed))
			same(t, "Owner", results(d.Owner(k, time)), results(owner, keyed))
		}
		for _, p := range []int{1, 0, 2, -1, 41} {
			played := want
			if want == api.OK && p != 1 {
				played = api.ErrNone
			}
			s := api.Standing{}
			if played == api.OK {
				s = api.Standing{Playback: 1, Cue: 1000, Fader: api.Full, Follow: -1, Runs: []api.Run{run(dim, 0, api.Full, 500, 0, 0, 1)}}
			}
			same(t, "Standing", results(d.Standing(p, time)), results(s, played))
			same(t, "Next", results(d.Next(p, time)), results(0, played))
			same(t, "Rest", results(d.Rest(p, time)), results(0, played))
		}
		if want != api.OK {
			same(t, "Levels", results(d.Levels(time)), results([]api.Setting(nil), want))
		}
	}
	ask(500, api.OK)
	ask(api.MaxTime, api.OK)
	ask(api.MaxTime+1, api.ErrRange)
	ask(math.MaxInt, api.ErrRange)
	ask(-1, api.ErrRange)
	ask(math.MinInt, api.ErrRange)
	ask(499, api.ErrOrder)
	ask(0, api.ErrOrder)
}

// TestStanding looks at the runs and the rest of a playback with fades of several lengths (P7).
func TestStanding(t *testing.T) {
	s := setup(t, "cue 1 up 0.1\n  10.dim full\n  10.pan full in 0.3\ncue 2 down 0.2\n  1.dim full\n  10.dim release\n")
	s.Playbacks[0].Number = 7
	d := replay(t, s, goes(0, 7), fader(0, 7, 5), goes(10, 7), pause(50, 7))
	want := api.Standing{Playback: 7, Cue: 2000, Fader: 5, Paused: true, Follow: -1, Runs: []api.Run{
		run(dim, 0, api.Full, 10, 0, 0, 3), ending(key(10, "dim"), 6554, 10, 0, 200, 3), run(key(10, "pan"), 500, api.Full, 0, 0, 300, 1)}}
	same(t, "Standing", results(d.Standing(7, 50)), results(want, api.OK))
	same(t, "Standing", results(d.Standing(7, 5000)), results(want, api.OK))
	same(t, "Rest", results(d.Rest(7, 5000)), results(250, api.OK))
	same(t, "resume", d.Do(resume(5000, 7)), api.OK)
	want.Paused = false
	same(t, "Standing", results(d.Standing(7, 5159)), results(want, api.OK))
	want.Runs = append(want.Runs[:1], want.Runs[2])
	same(t, "Standing", results(d.Standing(7, 5160)), results(want, api.OK))
	for time, want := range map[int]int{5000: 250, 5160: 90, 5249: 1, 5250: 0, 5251: 0, api.MaxTime: 0} {
		n, fault := d.Rest(7, time)
		same(t, "Rest", results(time, n, fault), results(time, want, api.OK))
	}
}
