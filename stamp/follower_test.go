package stamp_test

import (
	"fmt"
	"math"
	"testing"

	"cyclorama/api"
	"cyclorama/stamp"
)

// follower is a new one.
func follower(t *testing.T, rate, free, jump int) *stamp.Follower {
	t.Helper()
	f, fault := stamp.NewFollower(rate, free, jump)
	if f == nil || fault != api.OK {
		t.Fatalf("NewFollower %d %d %d: %d", rate, free, jump, fault)
	}
	return f
}

func heard(t *testing.T, f *stamp.Follower, s api.Stamp, time int) {
	t.Helper()
	same(t, fmt.Sprint("Hear ", s, " at ", time), f.Hear(s, time), api.OK)
}

func stands(t *testing.T, f *stamp.Follower, time, place, state int) {
	t.Helper()
	same(t, fmt.Sprint("Where at ", time), results(f.Where(time)), results(place, state, api.OK))
}

func takes(t *testing.T, f *stamp.Follower, time, from, to int, jumped bool) {
	t.Helper()
	same(t, fmt.Sprint("Take at ", time), results(f.Take(time)), results(from, to, jumped, api.OK))
}

// TestNewFollowers looks at the bounds of free and jump (T5).
func TestNewFollowers(t *testing.T) {
	for _, r := range []struct {
		rate, free, jump int
		want             api.Fault
	}{
		{api.Rate24, 0, 1, api.OK},
		{api.RateDrop, 1000, 1000, api.OK},
		{api.Rate25, -1, 1, api.ErrRange},
		{api.Rate25, 1001, 1, api.ErrRange},
		{api.Rate25, 0, 0, api.ErrRange},
		{api.Rate25, 0, -1, api.ErrRange},
		{api.Rate25, 0, 1001, api.ErrRange},
		{api.Rate25, math.MinInt, 1, api.ErrRange},
		{api.Rate25, 0, math.MaxInt, api.ErrRange},
		{26, 0, 1, api.ErrMode},
		{26, -1, 0, api.ErrMode},
	} {
		f, fault := stamp.NewFollower(r.rate, r.free, r.jump)
		same(t, fmt.Sprint("NewFollower ", r), results(f != nil, fault), results(r.want == api.OK, r.want))
	}
}

// TestNothingHeard asks a follower ahead of the first stamp (T5, T6).
func TestNothingHeard(t *testing.T) {
	f := follower(t, api.Rate25, 5, 5)
	stands(t, f, 0, 0, api.FollowNone)
	stands(t, f, 1000, 0, api.FollowNone)
	same(t, "Take", results(f.Take(5000)), results(0, 0, false, api.ErrState))
	same(t, "Take earlier", results(f.Take(999)), results(0, 0, false, api.ErrOrder))
	same(t, "Take at no time", results(f.Take(-1)), results(0, 0, false, api.ErrRange))
	// The time of Take, which had a fault, is not kept, but that of Where.
	same(t, "Hear earlier", f.Hear(at(0, 0, 1, 0), 999), api.ErrOrder)
	heard(t, f, at(0, 0, 1, 0), 1000)
	stands(t, f, 1000, 25, api.FollowHeld)
}

// TestStates looks at when a follower goes on by itself, and when it stops (T5).
func TestStates(t *testing.T) {
	for _, r := range []struct{ free, time, place, state int }{
		{3, 1000, 50, api.FollowHeld},
		{3, 1039, 50, api.FollowHeld},
		{3, 1040, 51, api.FollowHeld},
		{3, 1079, 51, api.FollowHeld},
		{3, 1080, 52, api.FollowFree},
		{3, 1120, 53, api.FollowFree},
		{3, 1159, 53, api.FollowFree},
		{3, 1160, 53, api.FollowLost},
		{3, api.MaxTime, 53, api.FollowLost},
		{0, 1039, 50, api.FollowHeld},
		{0, 1079, 51, api.FollowHeld},
		{0, 1080, 51, api.FollowLost},
		{1, 1079, 51, api.FollowHeld},
		{1, 1080, 51, api.FollowLost},
		{2, 1119, 52, api.FollowFree},
		{2, 1120, 52, api.FollowLost},
		{1000, 41039, 1050, api.FollowFree},
		{1000, 41040, 1050, api.FollowLost},
	} {
		f := follower(t, api.Rate25, r.free, 1)
		heard(t, f, at(0, 0, 2, 0), 1000)
		stands(t, f, r.time, r.place, r.state)
	}
}

// TestFollowDrop looks at frames of RateDrop, which last 33.366.. milliseconds, and at those that are left out (T5).
func TestFollowDrop(t *testing.T) {
	f := follower(t, api.RateDrop, 100, 100)
	heard(t, f, at(0, 0, 59, 29), 0)
	stands(t, f, 33, 1799, api.FollowHeld)
	stands(t, f, 34, 1800, api.FollowHeld)
	stands(t, f, 66, 1800, api.FollowHeld)
	stands(t, f, 67, 1801, api.FollowFree)
	stands(t, f, 1000, 1828, api.FollowFree)
	stands(t, f, 1001, 1829, api.FollowFree)
}

// TestAroundTheDay follows past midnight (T5, T6).
func TestAroundTheDay(t *testing.T) {
	f := follower(t, api.Rate24, 10, 100)
	heard(t, f, at(23, 59, 59, 22), 0)
	takes(t, f, 0, 2073598, 2073598, false)
	stands(t, f, 42, 2073599, api.FollowHeld)
	takes(t, f, 84, 2073598, 2073600, false)
	stands(t, f, 125, 1, api.FollowFree)
	takes(t, f, 125, 0, 1, false)
	heard(t, f, at(23, 59, 59, 23), 125)
	// Two frames back are nearly a day forward.
	takes(t, f, 125, 2073599, 2073599, true)
	stands(t, f, 10000, 9, api.FollowLost)
	takes(t, f, 10000, 2073599, 2073609, false)
}

// TestTakes looks at what has gone by, and at jumps (T6).
func TestTakes(t *testing.T) {
	f := follower(t, api.Rate25, 100, 5)
	heard(t, f, at(0, 0, 4, 0), 1000)
	takes(t, f, 1000, 100, 100, false)
	takes(t, f, 1000, 100, 100, false)
	takes(t, f, 1039, 100, 100, false)
	takes(t, f, 1040, 100, 101, false)
	takes(t, f, 1240, 101, 106, false)
	takes(t, f, 1480, 112, 112, true)
	takes(t, f, 1520, 112, 113, false)
	// Where does not take anything.
	stands(t, f, 1600, 115, api.FollowFree)
	takes(t, f, 1640, 113, 116, false)
	// Where a stamp is another one than it would be, it jumps forward or back, or not.
	heard(t, f, at(0, 0, 4, 20), 1640)
	takes(t, f, 1640, 116, 120, false)
	heard(t, f, at(0, 0, 5, 1), 1640)
	takes(t, f, 1640, 126, 126, true)
	heard(t, f, at(0, 0, 5, 0), 1640)
	takes(t, f, 1640, 125, 125, true)
	heard(t, f, at(0, 0, 5, 5), 1640)
	takes(t, f, 1640, 125, 130, false)
}

// TestJumps looks at the bounds of jump (T6).
func TestJumps(t *testing.T) {
	for _, r := range []struct {
		jump, frames int
		jumped       bool
	}{{1, 1, false}, {1, 2, true}, {5, 5, false}, {5, 6, true}, {1000, 1000, false}, {1000, 1001, true}} {
		f := follower(t, api.Rate25, 1, r.jump)
		heard(t, f, at(0, 0, 0, 0), 0)
		takes(t, f, 0, 0, 0, false)
		s, _ := stamp.StampOf(api.Rate25, r.frames)
		heard(t, f, s, 0)
		from := 0
		if r.jumped {
			from = r.frames
		}
		takes(t, f, 0, from, r.frames, r.jumped)
	}
}

// TestFollowFaults looks at calls with a fault, which change nothing (T5, T6).
func TestFollowFaults(t *testing.T) {
	f := follower(t, api.RateDrop, 10, 10)
	heard(t, f, at(0, 0, 1, 0), 1000)
	takes(t, f, 1000, 30, 30, false)
	for _, r := range []struct {
		time int
		s    api.Stamp
		want api.Fault
	}{
		{-1, at(0, 0, 2, 0), api.ErrRange},
		{api.MaxTime + 1, at(0, 0, 2, 0), api.ErrRange},
		{math.MinInt, at(0, 0, 2, 0), api.ErrRange},
		{math.MaxInt, at(0, 0, 2, 0), api.ErrRange},
		{999, at(0, 0, 2, 0), api.ErrOrder},
		{0, at(0, 0, 2, 0), api.ErrOrder},
		{0, at(24, 0, 0, 0), api.ErrOrder},
		{-1, at(0, 1, 0, 0), api.ErrRange},
		{2000, at(24, 0, 0, 0), api.ErrRange},
		{2000, at(0, 1, 0, 0), api.ErrNone},
	} {
		same(t, fmt.Sprint("Hear ", r), f.Hear(r.s, r.time), r.want)
		if r.time < 1000 || r.time > api.MaxTime {
			same(t, fmt.Sprint("Where ", r.time), results(f.Where(r.time)), results(0, 0, stampTime(r.time)))
			same(t, fmt.Sprint("Take ", r.time), results(f.Take(r.time)), results(0, 0, false, stampTime(r.time)))
		}
	}
	stands(t, f, 1000, 30, api.FollowHeld)
	takes(t, f, 1034, 30, 31, false)
	// All of them keep the time.
	same(t, "Where ahead of Take", results(f.Where(1033)), results(0, 0, api.ErrOrder))
	stands(t, f, 1035, 31, api.FollowHeld)
	same(t, "Take ahead of Where", results(f.Take(1034)), results(0, 0, false, api.ErrOrder))
	same(t, "Hear ahead of Where", f.Hear(at(0, 0, 2, 0), 1034), api.ErrOrder)
	heard(t, f, at(0, 0, 2, 0), 1036)
	same(t, "Where ahead of Hear", results(f.Where(1035)), results(0, 0, api.ErrOrder))
	heard(t, f, at(0, 0, 3, 0), api.MaxTime)
	stands(t, f, api.MaxTime, 90, api.FollowHeld)
}

// stampTime is the fault of a number that is less than 1000, or no time.
func stampTime(t int) api.Fault {
	if t < 0 || t > api.MaxTime {
		return api.ErrRange
	}
	return api.ErrOrder
}
