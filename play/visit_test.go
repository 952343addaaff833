package play_test

import (
	"testing"

	"cyclorama/api"
)

// TestExample is the example of the chapter (P3).
func TestExample(t *testing.T) {
	d := replay(t, setup(t, "cue 1 up 1\n  1.dim full\ncue 2 down 0.5\n  1.dim out\n"), goes(0, 1), goes(500, 1))
	levels(t, d, dim, 500, 32768, 625, 24576, 750, 16384, 999, 66, 1000, 0, 1001, 0, api.MaxTime, 0)
}

// TestTimes looks at which delay and time of a cue or a move count for which key (P3).
func TestTimes(t *testing.T) {
	const list = "cue 1 delay 0.001 up 0.01 down 0.02 other 0.03\n  1.dim full\n  1.flash full\n  1.gobo full\n  1.pan full\n  3.dim 10%\n  10.dim full in 0.5\n  10.flash full in 0.5 after 0.4\n  10.pan full in 0.6 after 0.7\n" +
		"cue 2 delay 0.002 up 0.04 down 0.05 other 0.06\n  1.dim 10%\n  1.flash 10%\n  1.pan 10%\n  3.colour out\n  3.dim out\n  10.dim out in 0\n" +
		"cue 3 delay 0.003 up 0.07\n  1.pan full\n"
	s := setup(t, list)
	d := replay(t, s, goes(100, 1))
	stands(t, d, 1, 100, 1000, -1,
		run(dim, 0, api.Full, 100, 1, 10, 1),
		run(flash, 0, api.Full, 100, 1, 0, 1),
		run(gobo, 7, api.Full, 100, 1, 0, 1),
		run(pan, 500, api.Full, 100, 1, 30, 1),
		run(house, 0, 6554, 100, 1, 10, 1),
		run(key(10, "dim"), 0, api.Full, 100, 0, 500, 1),
		run(key(10, "flash"), 0, api.Full, 100, 400, 0, 1),
		run(key(10, "pan"), 500, api.Full, 100, 700, 600, 1))
	same(t, "go on", d.Do(goes(106, 1)), api.OK)
	stands(t, d, 1, 106, 2000, -1,
		run(dim, 32768, 6554, 106, 2, 50, 2),
		run(flash, api.Full, 6554, 106, 2, 0, 2),
		run(gobo, 7, api.Full, 100, 1, 0, 1),
		run(pan, 11339, 6554, 106, 2, 60, 2),
		run(key(3, "colour"), 0, 0, 106, 2, 60, 2),
		run(house, 3277, 0, 106, 2, 50, 2),
		run(key(10, "dim"), 786, 0, 106, 0, 0, 2),
		run(key(10, "flash"), 0, api.Full, 100, 400, 0, 1),
		run(key(10, "pan"), 500, api.Full, 100, 700, 600, 1))
	// A move of an earlier cue counts, but not with its times.
	d = replay(t, s, jump(0, 1, 3000))
	stands(t, d, 1, 0, 3000, -1,
		run(dim, 0, 6554, 0, 3, 70, 1),
		run(flash, 0, 6554, 0, 3, 0, 1),
		run(gobo, 7, api.Full, 0, 3, 0, 1),
		run(pan, 500, api.Full, 0, 3, 0, 1),
		run(key(3, "colour"), 0, 0, 0, 3, 0, 1),
		run(house, 0, 0, 0, 3, 70, 1),
		run(key(10, "dim"), 0, 0, 0, 3, 70, 1),
		run(key(10, "flash"), 0, api.Full, 0, 3, 0, 1),
		run(key(10, "pan"), 500, api.Full, 0, 3, 0, 1))
}

// TestSameLevel looks at keys that go where they are already: the time is Up, and nothing happens if a run goes there (P3).
func TestSameLevel(t *testing.T) {
	const list = "cue 1 up 0.1 down 0.2\n  1.dim full\n  3.dim out\ncue 2 up 0.3 down 0.4 curve soft\n  1.dim preset 4\n  3.dim preset 1\ncue 3 up 0.5 down 0.6\n  1.dim #32768\n"
	d := replay(t, setup(t, list), goes(0, 1), goes(50, 1))
	stands(t, d, 1, 50, 2000, -1, run(dim, 0, api.Full, 0, 0, 100, 1), run(house, 0, 0, 0, 0, 100, 1))
	// The level at the clock is that of the cue, but the run does not go to it.
	d = replay(t, setup(t, list), goes(0, 1), jump(50, 1, 3000))
	stands(t, d, 1, 50, 3000, -1, run(dim, 32768, 32768, 50, 0, 500, 2), run(house, 0, 0, 0, 0, 100, 1))
}

// TestValues looks at presets and levels of the state, and at curves (P3).
func TestValues(t *testing.T) {
	const list = "cue 1 up 0.1 curve slow\n  1.dim preset 1\n  1.pan preset 4\n  10.pan preset 4\ncue 2 other 0.1 curve table 0:0 500:1000 1000:1000\n  1.pan preset 1\ncue 3\n"
	d := replay(t, setup(t, list), goes(0, 1))
	levels(t, d, dim, 0, 0, 50, 7500, 100, 30000)
	levels(t, d, pan, 0, 1000)
	levels(t, d, key(10, "pan"), 0, 8)
	same(t, "go on", d.Do(goes(200, 1)), api.OK)
	r := run(pan, 1000, 9, 200, 0, 100, 2)
	r.Fade.Curve = api.Curve{Kind: api.CurveTable, Points: []api.Point{{}, {Time: 500, Way: 1000}, {Time: 1000, Way: 1000}}}
	first, second := run(dim, 0, 30000, 0, 0, 100, 1), run(key(10, "pan"), 500, 8, 0, 0, 0, 1)
	first.Fade.Curve, second.Fade.Curve = curve(api.CurveSlow), curve(api.CurveSlow)
	stands(t, d, 1, 200, 2000, -1, first, r, second)
	levels(t, d, pan, 225, 505, 250, 9, 300, 9)
}

// TestFrom looks at the level from which a key begins without a run: an intensity with 0, others with what the desk gives (P3).
func TestFrom(t *testing.T) {
	s := setup(t, "cue 1 other 0.1\n  1.dim 50%\n  1.pan #1500\n  3.dim full\n", "cue 1 up 0.1 other 0.1\n  1.dim full\n  1.pan full\n  3.dim full\n", "cue 1\n  1.pan #700\n")
	s.Playbacks[0].Priority = 1
	d := replay(t, s, goes(0, 3), goes(0, 1), grand(0, 5), black(0, 1), goes(50, 2))
	stands(t, d, 2, 50, 1000, -1,
		run(dim, 0, api.Full, 50, 0, 100, 5),
		run(pan, 1100, api.Full, 50, 0, 100, 5),
		run(house, 0, api.Full, 50, 0, 100, 5))
	// The other playback has let it go just now.
	d = replay(t, s, goes(0, 3), goes(0, 1), release(50, 1, 1000), goes(50, 2))
	stands(t, d, 2, 50, 1000, -1,
		run(dim, 0, api.Full, 50, 0, 100, 4),
		run(pan, 700, api.Full, 50, 0, 100, 4),
		run(house, 0, api.Full, 50, 0, 100, 4))
	// Its own run of earlier is gone, so that the Default is what there is.
	d = replay(t, setup(t, "cue 1\n  1.pan full\ncue 2\n  1.dim full\n  1.pan release\ncue 3 other 0.1\n  1.pan #600\n"), goes(0, 1), goes(1, 1), goes(2, 1))
	stands(t, d, 1, 2, 3000, -1, run(dim, 0, api.Full, 1, 0, 0, 2), run(pan, 500, 600, 2, 0, 100, 3))
}

// TestLeftOut looks at keys that are no more in the state: intensities go to 0, others are gone (P3).
func TestLeftOut(t *testing.T) {
	const list = "cue 1 up 0.1\n  1.dim full\n  1.flash full\n  1.pan full\n  3.dim out\n" +
		"cue 2 delay 0.01 up 0.2 down 0.3 other 0.4\n  1.dim release\n  1.flash release\n  1.pan release in 5\n  3.dim release in 5 after 5\n" +
		"cue 3 up 0.5 down 0.6\n  10.dim full\n" +
		"cue 4 up 0.7 down 0.8\n  1.dim out\n"
	s := setup(t, list)
	d := replay(t, s, goes(0, 1), goes(50, 1))
	runs := []api.Run{ending(dim, 32768, 50, 10, 300, 2), ending(flash, api.Full, 50, 10, 300, 2), ending(house, 0, 50, 10, 300, 2)}
	stands(t, d, 1, 50, 2000, -1, runs...)
	levels(t, d, dim, 50, 32768, 60, 32768, 210, 16384, 359, 109, 360, 0)
	levels(t, d, pan, 50, 500)
	// They are gone as soon as their fades have ended, and then the Default is there.
	levels(t, d, house, 359, 0, 360, 40000)
	stands(t, d, 1, 359, 2000, -1, runs...)
	stands(t, d, 1, 360, 2000, -1)
	// What is ending goes on, but what comes back has a new run.
	same(t, "go on", d.Do(goes(210, 1)), api.OK)
	stands(t, d, 1, 210, 3000, -1, append(runs, run(key(10, "dim"), 0, api.Full, 210, 0, 500, 3))...)
	same(t, "go on again", d.Do(goes(285, 1)), api.OK)
	stands(t, d, 1, 285, 4000, -1, run(dim, 8192, 0, 285, 0, 800, 4), ending(flash, api.Full, 50, 10, 300, 2), ending(house, 0, 50, 10, 300, 2), run(key(10, "dim"), 0, api.Full, 210, 0, 500, 3))
	// What has ended is no more there to begin with.
	d = replay(t, s, goes(0, 1), goes(50, 1), jump(360, 1, 1000))
	stands(t, d, 1, 360, 1000, -1, run(dim, 0, api.Full, 360, 0, 100, 3), run(flash, 0, api.Full, 360, 0, 0, 3), run(pan, 500, api.Full, 360, 0, 0, 3), run(house, 0, 0, 360, 0, 100, 3))
}

// TestEndsAtOnce looks at intensities that go to 0 without a time (P3, P4).
func TestEndsAtOnce(t *testing.T) {
	d := replay(t, setup(t, "cue 1\n  1.dim full\n  3.dim 1%\ncue 2\n  1.dim release\n  3.dim release\n"), goes(0, 1), goes(5, 1))
	stands(t, d, 1, 5, 2000, -1)
	levels(t, d, dim, 5, 0)
	levels(t, d, house, 5, 40000)
}

// TestCut looks at fades that would end behind MaxTime (P3, P4).
func TestCut(t *testing.T) {
	const list = "cue 1 delay 1:00 up 2:00 down 3:00 other 600:00\n  1.dim full\n  1.flash full in 600:00\n  1.pan full in 2:00 after 600:00\n  3.dim full in 600:00 after 1\ncue 2 delay 1:00 up 2:00 down 3:00\n  1.dim release\n  1.flash release\n"
	const last = api.MaxTime
	s := setup(t, list)
	d := replay(t, s, goes(0, 1))
	stands(t, d, 1, 0, 1000, -1, run(dim, 0, api.Full, 0, 60000, 120000, 1), run(flash, 0, api.Full, 0, 0, 0, 1), run(pan, 500, api.Full, 0, last, 0, 1), run(house, 0, api.Full, 0, 1000, last-1000, 1))
	d = replay(t, s, goes(last-180000, 1))
	stands(t, d, 1, last, 1000, -1, run(dim, 0, api.Full, last-180000, 60000, 120000, 1), run(flash, 0, api.Full, last-180000, 0, 0, 1), run(pan, 500, api.Full, last-180000, 180000, 0, 1), run(house, 0, api.Full, last-180000, 1000, 179000, 1))
	d = replay(t, s, goes(last-179999, 1), goes(last-100000, 1))
	stands(t, d, 1, last-100000, 2000, -1, ending(dim, 10922, last-100000, 60000, 40000, 2), ending(flash, api.Full, last-100000, 60000, 40000, 2), run(pan, 500, api.Full, last-179999, 179999, 0, 1), run(house, 0, api.Full, last-179999, 1000, 178999, 1))
	d = replay(t, s, goes(last-60001, 1), release(last-10, 1, 1000))
	stands(t, d, 1, last-10, 0, -1, ending(dim, 0, last-10, 0, 10, 2), ending(flash, api.Full, last-10, 0, 10, 2), ending(house, 65524, last-10, 0, 10, 2))
	d = replay(t, s, goes(last, 1))
	stands(t, d, 1, last, 1000, -1, run(dim, 0, api.Full, last, 0, 0, 1), run(flash, 0, api.Full, last, 0, 0, 1), run(pan, 500, api.Full, last, 0, 0, 1), run(house, 0, api.Full, last, 0, 0, 1))
	levels(t, d, dim, last, api.Full)
}

// TestClocks looks at fades of a playback that is stopped for a while (P3).
func TestClocks(t *testing.T) {
	const list = "cue 1 up 0.1\n  1.dim full\ncue 2 down 0.1\n  1.dim out\n"
	s := setup(t, list, list)
	d := replay(t, s, goes(10, 1), goes(10, 2), pause(60, 1))
	levels(t, d, dim, 60, 32768, 61, 33423)
	same(t, "the time of an action", d.Do(grand(70, api.Full)), api.OK)
	rest := func(time, want int) {
		t.Helper()
		same(t, "Rest", results(d.Rest(1, time)), results(want, api.OK))
	}
	rest(70, 50)
	rest(1000, 50)
	same(t, "release of the other one", d.Do(release(500, 2, 0)), api.OK)
	levels(t, d, dim, 500, 32768, 1000, 32768)
	same(t, "resume", d.Do(resume(1000, 1)), api.OK)
	levels(t, d, dim, 1000, 32768, 1025, 49151, 1050, api.Full)
	rest(1020, 30)
	same(t, "pause again", d.Do(pause(1025, 1)), api.OK)
	rest(2000, 25)
	// Going to a cue lets the clock go on: it showed 85 at 1025.
	same(t, "go", d.Do(goes(3000, 1)), api.OK)
	stands(t, d, 1, 3000, 2000, -1, run(dim, 49151, 0, 85, 0, 100, 8))
	levels(t, d, dim, 3000, 49151, 3050, 24576, 3100, 0)
	s2, fault := d.Standing(1, 3000)
	same(t, "Paused", results(s2.Paused, fault), results(false, api.OK))
	same(t, "resume what goes", d.Do(resume(3000, 1)), api.ErrState)
	same(t, "pause, and pause again", results(d.Do(pause(3010, 1)), d.Do(pause(3010, 1))), results(api.OK, api.ErrState))
	s2, fault = d.Standing(1, 3010)
	same(t, "Paused", results(s2.Paused, fault), results(true, api.OK))
	// So does letting the playback go.
	same(t, "release", d.Do(release(4000, 1, 100)), api.OK)
	stands(t, d, 1, 4000, 0, -1, ending(dim, 44236, 95, 0, 100, 10))
	levels(t, d, dim, 4050, 22118)
	same(t, "pause of nobody, resume of what goes", results(d.Do(pause(4000, 1)), d.Do(resume(4000, 1))), results(api.ErrState, api.ErrState))
}
