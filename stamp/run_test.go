package stamp_test

import (
	"fmt"
	"math"
	"slices"
	"testing"

	"cyclorama/api"
	"cyclorama/stamp"
)

// TestDue looks at which events are due, and at stretches that are none (T4).
func TestDue(t *testing.T) {
	s := setup(t, three)
	l := []api.Event{event(0, goes(1)), event(10, back(1)), event(10, goes(1)), event(20, black(1)), event(2159999, black(0))}
	rows := []struct {
		from, to int
		want     []api.Event
	}{
		{0, 2160000, l},
		{0, 2159999, l[:4]},
		{0, 20, l[:3]},
		{0, 21, l[:4]},
		{1, 10, nil},
		{1, 11, l[1:3]},
		{10, 11, l[1:3]},
		{10, 10, nil},
		{0, 0, nil},
		{0, 1, l[:1]},
		{11, 20, nil},
		{20, 2160000, l[3:]},
		{2159999, 2160000, l[4:]},
		{2160000, 2160000, nil},
	}
	for _, r := range rows {
		same(t, fmt.Sprint("Due from ", r.from, " to ", r.to), results(stamp.Due(s, api.Rate25, l, r.from, r.to)), results(r.want, api.OK))
	}
	same(t, "Due of none", results(stamp.Due(s, api.Rate25, nil, 0, 2160000)), results([]api.Event{}, api.OK))
	for _, r := range [][2]int{{-1, 0}, {-1, 2160000}, {1, 0}, {0, 2160001}, {2160001, 2160001}, {5, 4}, {math.MinInt, math.MaxInt}, {math.MaxInt, math.MinInt}} {
		name := fmt.Sprint(" from ", r[0], " to ", r[1])
		same(t, "Due"+name, results(stamp.Due(s, api.Rate25, l, r[0], r[1])), results([]api.Event{}, api.ErrRange))
		d, fault := stamp.Run(s, api.Rate25, l, r[0], r[1], 0)
		same(t, "Run"+name, results(d == nil, fault), results(true, api.ErrRange))
		same(t, "Reach"+name, results(stamp.Reach(s, api.Rate25, l, r[0], r[1])), results([]api.Action{}, api.ErrRange))
	}
}

// ran checks which actions a run has done.
func ran(t *testing.T, s api.Setup, rate int, l []api.Event, from, to, start int, want ...api.Action) {
	t.Helper()
	name := fmt.Sprint("Run from ", from, " to ", to, " at ", start)
	d, fault := stamp.Run(s, rate, l, from, to, start)
	if d == nil || fault != api.OK {
		t.Fatal(name, d, fault)
	}
	same(t, name, results(d.Actions()), results(want))
}

// TestRuns looks at the times of events, and at those that are passed over (T4).
func TestRuns(t *testing.T) {
	s := setup(t, three, three)
	l := []api.Event{event(25, goes(1)), event(26, resume(1)), event(50, fader(2, 9)), event(50, jump(1, 3000)), event(75, goes(1)), event(80, back(2)), event(100, grand(7))}
	ran(t, s, api.Rate25, l, 0, 2160000, 0, timed(1000, goes(1)), timed(2000, fader(2, 9)), timed(2000, jump(1, 3000)), timed(4000, grand(7)))
	ran(t, s, api.Rate25, l, 0, 100, 500, timed(1500, goes(1)), timed(2500, fader(2, 9)), timed(2500, jump(1, 3000)))
	ran(t, s, api.Rate25, l, 25, 26, 500, timed(500, goes(1)))
	ran(t, s, api.Rate25, l, 27, 76, 0, timed(920, fader(2, 9)), timed(920, jump(1, 3000)))
	ran(t, s, api.Rate25, l, 51, 101, 10, timed(970, goes(1)), timed(1970, grand(7)))
	ran(t, s, api.Rate25, nil, 0, 2160000, api.MaxTime)
	ran(t, s, api.Rate24, l, 24, 51, 0, timed(42, goes(1)), timed(1083, fader(2, 9)), timed(1083, jump(1, 3000)))
	ran(t, s, api.RateDrop, l, 10, 51, 1, timed(502, goes(1)), timed(1336, fader(2, 9)), timed(1336, jump(1, 3000)))
}

// TestRunFollows looks at a run in which a playback goes on by itself between events (T4).
func TestRunFollows(t *testing.T) {
	s := setup(t, "cue 1 follow 1\ncue 2\ncue 3\n")
	l := []api.Event{event(0, goes(1)), event(25, goes(1)), event(50, goes(1)), event(75, back(1))}
	ran(t, s, api.Rate25, l, 0, 100, 0, timed(0, goes(1)), timed(1000, goes(1)), timed(3000, back(1)))
	d, _ := stamp.Run(s, api.Rate25, l, 0, 100, 0)
	for time, want := range map[int]int{3000: 2000, 4000: 2000} {
		stand, fault := d.Standing(1, time)
		same(t, fmt.Sprint("Standing at ", time), results(stand.Cue, fault), results(want, api.OK))
	}
}

// TestRunTimes looks at starts and events at the end of all times (T4).
func TestRunTimes(t *testing.T) {
	s := setup(t, three)
	l := []api.Event{event(0, goes(1)), event(900000, goes(1))}
	ran(t, s, api.Rate25, l, 0, 900001, 0, timed(0, goes(1)), timed(api.MaxTime, goes(1)))
	ran(t, s, api.Rate25, l, 0, 900000, api.MaxTime, timed(api.MaxTime, goes(1)))
	ran(t, s, api.Rate25, l, 1, 900001, 40, timed(api.MaxTime, goes(1)))
	ran(t, s, api.Rate25, l, 900001, 2160000, 0)
	for _, r := range []struct {
		l               []api.Event
		from, to, start int
	}{
		{nil, 0, 0, -1},
		{nil, 0, 0, api.MaxTime + 1},
		{nil, 0, 0, math.MinInt},
		{nil, 0, 0, math.MaxInt},
		{l, 0, 1, -1},
		{l, 0, 900001, 1},
		{l, 1, 900001, 41},
		{[]api.Event{event(900001, goes(1))}, 0, 900002, 0},
		// Also that of an event that would be passed over is a time.
		{[]api.Event{event(900001, resume(1))}, 0, 900002, 0},
		{[]api.Event{event(0, goes(1)), event(2159999, black(1))}, 0, 2160000, 0},
		{[]api.Event{event(0, goes(1))}, 0, 1, math.MaxInt},
	} {
		d, fault := stamp.Run(s, api.Rate25, r.l, r.from, r.to, r.start)
		same(t, fmt.Sprint("Run of ", r), results(d == nil, fault), results(true, api.ErrRange))
	}
}

// reached checks which actions Reach gives.
func reached(t *testing.T, s api.Setup, l []api.Event, from, to int, want ...api.Action) {
	t.Helper()
	got, fault := stamp.Reach(s, api.Rate25, l, from, to)
	same(t, fmt.Sprint("Reach from ", from, " to ", to), results(got, fault), results(want, api.OK))
}

// TestReach looks at the actions, and at their order (T4).
func TestReach(t *testing.T) {
	s := setup(t, three, three, three)
	s.Playbacks[2].Number = 40
	l := []api.Event{
		event(0, black(1)), event(1, goes(40)), event(2, fader(40, 5)), event(3, pause(40)), event(4, grand(9)), event(5, jump(1, 2500)), event(6, fader(2, 0)), event(7, fader(1, 8)),
		event(8, pause(1)), event(9, goes(2)), event(10, grand(api.Full)), event(11, black(0)), event(12, release(40, 500)), event(13, fader(1, api.Full)), event(14, resume(1)), event(15, back(1)),
	}
	reached(t, s, l, 0, 0)
	reached(t, s, nil, 0, 900000)
	reached(t, s, l, 0, 1, black(1))
	reached(t, s, l, 0, 4, jump(40, 1000), fader(40, 5), pause(40), black(1))
	reached(t, s, l, 0, 6, jump(1, 2500), jump(40, 1000), fader(40, 5), pause(40), grand(9), black(1))
	reached(t, s, l, 0, 10, jump(1, 2500), jump(2, 1000), jump(40, 1000), fader(1, 8), fader(2, 0), fader(40, 5), pause(1), pause(40), grand(9), black(1))
	reached(t, s, l, 0, 12, jump(1, 2500), jump(2, 1000), jump(40, 1000), fader(1, 8), fader(2, 0), fader(40, 5), pause(1), pause(40), grand(api.Full), black(0))
	// A playback that is at no cue is not paused either; its fader stays.
	reached(t, s, l, 0, 13, jump(1, 2500), jump(2, 1000), fader(1, 8), fader(2, 0), fader(40, 5), pause(1), grand(api.Full), black(0))
	reached(t, s, l, 0, 15, jump(1, 2500), jump(2, 1000), fader(2, 0), fader(40, 5), grand(api.Full), black(0))
	reached(t, s, l, 0, 16, jump(1, 1000), jump(2, 1000), fader(2, 0), fader(40, 5), grand(api.Full), black(0))
	// What is ahead of the stretch was not done.
	reached(t, s, l, 11, 16, black(0))
	reached(t, s, l, 8, 11, jump(2, 1000), grand(api.Full))
}

// TestReachFollows looks at playbacks that go on by themselves up to the end of the stretch, and at it (T4).
func TestReachFollows(t *testing.T) {
	s := setup(t, "cue 1 follow 1\ncue 2 follow 1\ncue 3\n")
	l := []api.Event{event(0, goes(1)), event(60, pause(1))}
	reached(t, s, l, 0, 24, jump(1, 1000))
	reached(t, s, l, 0, 25, jump(1, 2000))
	reached(t, s, l, 0, 49, jump(1, 2000))
	reached(t, s, l, 0, 50, jump(1, 3000))
	reached(t, s, l, 0, 60, jump(1, 3000))
	reached(t, s, l, 0, 61, jump(1, 3000), pause(1))
	paused := []api.Event{event(0, goes(1)), event(24, pause(1))}
	reached(t, s, paused, 0, 900000, jump(1, 1000), pause(1))
}

// TestReachTimes looks at stretches that are as long as a time, and longer (T4).
func TestReachTimes(t *testing.T) {
	s := setup(t, three)
	l := []api.Event{event(0, goes(1))}
	reached(t, s, l, 0, 900000, jump(1, 1000))
	reached(t, s, l, 1, 900001)
	reached(t, s, nil, 1260000, 2160000)
	for _, r := range [][2]int{{0, 900001}, {1, 900002}, {0, 2160000}} {
		same(t, fmt.Sprint("Reach of ", r), results(stamp.Reach(s, api.Rate25, l, r[0], r[1])), results([]api.Action{}, api.ErrRange))
		same(t, fmt.Sprint("Reach without events of ", r), results(stamp.Reach(s, api.Rate25, nil, r[0], r[1])), results([]api.Action{}, api.ErrRange))
	}
	// 1078921 frames of RateDrop last 35999999.3 milliseconds, those of one more 36000032.7.
	same(t, "Reach of RateDrop", results(stamp.Reach(s, api.RateDrop, l, 0, 1078921)), results([]api.Action{jump(1, 1000)}, api.OK))
	same(t, "Reach of RateDrop", results(stamp.Reach(s, api.RateDrop, l, 0, 1078922)), results([]api.Action{}, api.ErrRange))
}

// TestManyEvents runs as many events as there can be (T4).
func TestManyEvents(t *testing.T) {
	s := setup(t, three, three)
	var l []api.Event
	for i := range api.MaxEvents {
		l = append(l, event(i, []api.Action{goes(1), back(1), fader(2, i), goes(2)}[i%4]))
	}
	d, fault := stamp.Run(s, api.Rate25, l, 0, api.MaxEvents, 0)
	if d == nil || fault != api.OK {
		t.Fatal(fault)
	}
	want, _ := runOf(s, api.Rate25, l[:40], 0, 40, 0)
	same(t, "the first actions", d.Actions()[:len(want)], want)
	kinds := map[int]int{}
	for _, a := range d.Actions() {
		kinds[a.Kind]++
	}
	// The playback 1 cannot go back from its first cue alone, the playback 2 can go three times.
	same(t, "the kinds", kinds, map[int]int{api.ActGo: 500 + 3, api.ActBack: 499, api.ActFader: 500})
	same(t, "the times", slices.IsSortedFunc(d.Actions(), func(a, b api.Action) int { return a.Time - b.Time }), true)
}
