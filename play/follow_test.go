package play_test

import (
	"testing"

	"cyclorama/api"
)

const chain = "cue 1 follow 0.1\n  1.dim 10%\ncue 2 follow 0\n  1.dim 20%\ncue 3 up 0.1 follow 0.05\n  1.dim full\ncue 4 follow 1\n  1.pan full\n"

// TestFollows looks at cues that follow by themselves, when they are due (P5).
func TestFollows(t *testing.T) {
	d := replay(t, setup(t, chain), goes(1000, 1))
	stands(t, d, 1, 1000, 1000, 1100, run(dim, 0, 6554, 1000, 0, 0, 1))
	stands(t, d, 1, 1099, 1000, 1100, run(dim, 0, 6554, 1000, 0, 0, 1))
	// A follow from a follow is done at the same time.
	stands(t, d, 1, 1100, 3000, 1150, run(dim, 13107, api.Full, 1100, 0, 100, 3))
	stands(t, d, 1, 1149, 3000, 1150, run(dim, 13107, api.Full, 1100, 0, 100, 3))
	// Nothing follows the last one.
	stands(t, d, 1, 1150, 4000, -1, run(dim, 13107, api.Full, 1100, 0, 100, 3), run(pan, 500, api.Full, 1150, 0, 0, 4))
	stands(t, d, 1, api.MaxTime, 4000, -1, run(dim, 13107, api.Full, 1100, 0, 100, 3), run(pan, 500, api.Full, 1150, 0, 0, 4))
	// The desk itself does not change by this.
	same(t, "Time", d.Time(), 1000)
	stands(t, d, 1, 1000, 1000, 1100, run(dim, 0, 6554, 1000, 0, 0, 1))
	for time, want := range map[int]int{1000: 2000, 1099: 2000, 1100: 4000, 1149: 4000, 1150: 0} {
		n, fault := d.Next(1, time)
		same(t, "Next", results(time, n, fault), results(time, want, api.OK))
	}
	levels(t, d, pan, 1149, 500, 1150, api.Full)
	same(t, "Owner", results(d.Owner(pan, 1149)), results(0, api.OK))
	same(t, "Owner", results(d.Owner(pan, 1150)), results(1, api.OK))
	same(t, "Rest", results(d.Rest(1, 1099)), results(0, api.OK))
	same(t, "Rest", results(d.Rest(1, 1100)), results(100, api.OK))
	// Follows up to the time of an action, and at it, come ahead of it.
	same(t, "fader", d.Do(fader(1150, 1, 0)), api.OK)
	same(t, "back", d.Do(back(1150, 1)), api.OK)
	stands(t, d, 1, 1150, 3000, 1200, run(dim, 13107, api.Full, 1100, 0, 100, 3))
	same(t, "jump", d.Do(jump(1160, 1, 1000)), api.OK)
	stands(t, d, 1, 1160, 1000, 1260, run(dim, 44564, 6554, 1160, 0, 0, 7))
}

// TestFollowsAtOnce looks at a follow at the time of the action that it comes from: it is behind it (P5).
func TestFollowsAtOnce(t *testing.T) {
	s := setup(t, "cue 1 follow 0\n  1.dim 10%\ncue 2 up 1\n  1.dim full\n")
	d := replay(t, s, goes(5, 1))
	stands(t, d, 1, 5, 2000, -1, run(dim, 6554, api.Full, 5, 0, 1000, 2))
	same(t, "go behind it", d.Do(goes(5, 1)), api.ErrNone)
	same(t, "pause", d.Do(pause(5, 1)), api.OK)
	same(t, "back", d.Do(back(5, 1)), api.OK)
	stands(t, d, 1, 5, 2000, -1, run(dim, 6554, api.Full, 5, 0, 1000, 5))
}

// TestNoFollows looks at what takes a follow back, or puts it off (P5).
func TestNoFollows(t *testing.T) {
	s := setup(t, chain)
	d := replay(t, s, goes(0, 1), release(99, 1, 1000))
	stands(t, d, 1, 500, 0, -1, ending(dim, 6554, 99, 0, 1000, 2))
	d = replay(t, s, goes(0, 1), jump(99, 1, 4000))
	stands(t, d, 1, 500, 4000, -1, run(dim, 6554, api.Full, 99, 0, 0, 2), run(pan, 500, api.Full, 99, 0, 0, 2))
	// Going to the same cue begins it again.
	d = replay(t, s, goes(0, 1), jump(99, 1, 1000))
	stands(t, d, 1, 198, 1000, 199, run(dim, 0, 6554, 0, 0, 0, 1))
	stands(t, d, 1, 199, 3000, 249, run(dim, 13107, api.Full, 199, 0, 100, 4))
	// A clock that is stopped does not come to it.
	d = replay(t, s, goes(0, 1), pause(99, 1))
	stands(t, d, 1, 99, 1000, -1, run(dim, 0, 6554, 0, 0, 0, 1))
	stands(t, d, 1, 5000, 1000, -1, run(dim, 0, 6554, 0, 0, 0, 1))
	same(t, "resume", d.Do(resume(5000, 1)), api.OK)
	stands(t, d, 1, 5000, 1000, 5001, run(dim, 0, 6554, 0, 0, 0, 1))
	stands(t, d, 1, 5001, 3000, 5051, run(dim, 13107, api.Full, 100, 0, 100, 5))
	// The follow at the time of a pause is ahead of it.
	d = replay(t, s, goes(0, 1), pause(150, 1))
	stands(t, d, 1, 5000, 4000, -1, run(dim, 13107, api.Full, 100, 0, 100, 3), run(pan, 500, api.Full, 150, 0, 0, 4))
	// Other actions leave it as it is.
	d = replay(t, s, goes(0, 1), fader(50, 1, 0), grand(60, 0), black(99, 1))
	stands(t, d, 1, 99, 1000, 100, run(dim, 0, 6554, 0, 0, 0, 1))
}

// TestLateFollows looks at follows that would come at the end of all time, or behind it (P5).
func TestLateFollows(t *testing.T) {
	s := setup(t, "cue 1 follow 600:00\n  1.dim full\ncue 2\n  1.dim 1%\n")
	d := replay(t, s, goes(0, 1))
	stands(t, d, 1, api.MaxTime-1, 1000, api.MaxTime, run(dim, 0, api.Full, 0, 0, 0, 1))
	stands(t, d, 1, api.MaxTime, 2000, -1, run(dim, api.Full, 655, api.MaxTime, 0, 0, 2))
	d = replay(t, s, goes(1, 1))
	stands(t, d, 1, api.MaxTime, 1000, api.MaxTime+1, run(dim, 0, api.Full, 1, 0, 0, 1))
}

// TestFollowOrder looks at follows of several playbacks: by their times, then by the numbers of playbacks (P5).
func TestFollowOrder(t *testing.T) {
	a := "cue 1 follow 0.1\ncue 2 follow 0\n  1.pan 10%\ncue 3\n  1.pan 20%\n"
	b := "cue 1 follow 0.1\ncue 2 other 1\n  1.pan 30%\n"
	c := "cue 1 follow 0.09\ncue 2\n  1.pan 40%\n"
	s := setup(t, a, b, c)
	for _, l := range [][]api.Action{{goes(0, 1), goes(0, 2), goes(0, 3)}, {goes(0, 3), goes(0, 2), goes(0, 1)}} {
		d := replay(t, s, l...)
		stands(t, d, 3, 100, 2000, -1, run(pan, 500, 26214, 90, 0, 0, 4))
		stands(t, d, 1, 100, 3000, -1, run(pan, 6554, 13107, 100, 0, 0, 6))
		stands(t, d, 2, 100, 2000, -1, run(pan, 13107, 19661, 100, 0, 1000, 7))
		same(t, "Owner", results(d.Owner(pan, 99)), results(3, api.OK))
		same(t, "Owner", results(d.Owner(pan, 100)), results(2, api.OK))
	}
	// An earlier time comes first, whatever the number.
	d := replay(t, s, goes(0, 2), goes(1, 1))
	stands(t, d, 2, 101, 2000, -1, run(pan, 500, 19661, 100, 0, 1000, 3))
	stands(t, d, 1, 101, 3000, -1, run(pan, 6554, 13107, 101, 0, 0, 5))
}
