package stamp

import (
	"cyclorama/api"
	"cyclorama/level"
)

// unheard is the time of a stamp, and nowhere the place, where there is none.
const (
	unheard = -1
	nowhere = -1
)

// Follower knows where a timecode is of which it hears stamps.
type Follower struct {
	pace
	free, jump int
	now        int // the time of the last call
	frame      int // the number of the last stamp
	heard      int // the time of the last stamp, or unheard
	at         int // the place that Take kept, or nowhere
}

// NewFollower returns a follower that has heard nothing.
func NewFollower(rate, free, jump int) (*Follower, api.Fault) {
	p, fault := paceOf(rate)
	if fault != api.OK {
		return nil, fault
	}
	if free < 0 || free > api.MaxFree || jump < 1 || jump > api.MaxFree {
		return nil, api.ErrRange
	}
	return &Follower{pace: p, free: free, jump: jump, heard: unheard, at: nowhere}, api.OK
}

// checkTime validates the time of a call.
func (f *Follower) checkTime(t int) api.Fault {
	switch {
	case !level.IsTime(t):
		return api.ErrRange
	case t < f.now:
		return api.ErrOrder
	}
	return api.OK
}

// Hear tells the follower a stamp.
func (f *Follower) Hear(s api.Stamp, t int) api.Fault {
	if fault := f.checkTime(t); fault != api.OK {
		return fault
	}
	if fault := f.check(s); fault != api.OK {
		return fault
	}
	f.now, f.heard, f.frame = t, t, f.number(s)
	return api.OK
}

// Where returns the place and the state at a time.
func (f *Follower) Where(t int) (int, int, api.Fault) {
	if fault := f.checkTime(t); fault != api.OK {
		return 0, 0, fault
	}
	f.now = t
	place, state := f.where()
	return place, state, api.OK
}

// where returns the place and the state at the time of the last call.
func (f *Follower) where() (place, state int) {
	if f.heard == unheard {
		return 0, api.FollowNone
	}
	gone, most := f.frames(f.now-f.heard), max(f.free, 1)
	switch {
	case gone <= 1:
		state = api.FollowHeld
	case gone <= most:
		state = api.FollowFree
	default:
		state = api.FollowLost
	}
	return f.around(f.frame + min(gone, most)), state
}

// Take returns which frames have gone by since the last Take: to can be behind the end of the day.
func (f *Follower) Take(t int) (from, to int, jumped bool, x api.Fault) {
	if fault := f.checkTime(t); fault != api.OK {
		return 0, 0, false, fault
	}
	if f.heard == unheard {
		return 0, 0, false, api.ErrState
	}
	f.now = t
	place, _ := f.where()
	last := f.at
	f.at = place
	if last == nowhere {
		return place, place, false, api.OK
	}
	gone := f.around(place - last)
	if gone > f.jump {
		return place, place, true, api.OK
	}
	return last, last + gone, false, api.OK
}
