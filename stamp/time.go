package stamp

import "cyclorama/api"

// millis returns how long n frames last, rounded: 2 n span / (2 second) and a half.
func (p pace) millis(n int) int { return (2*n*p.span + p.second) / (2 * p.second) }

// frames returns how many whole frames there are in so many milliseconds.
func (p pace) frames(millis int) int { return millis * p.second / p.span }

// Millis returns the milliseconds of n frames.
func Millis(rate, n int) (int, api.Fault) {
	return measured(rate, n, pace.day, pace.millis)
}

// Frames returns how many whole frames there are in so many milliseconds.
func Frames(rate, millis int) (int, api.Fault) {
	return measured(rate, millis, func(p pace) int { return p.millis(p.day()) }, pace.frames)
}

// measured returns what a pace makes of a number from 0 to the one that is the most for it.
func measured(rate, n int, most func(p pace) int, measure func(p pace, n int) int) (int, api.Fault) {
	p, fault := paceOf(rate)
	if fault != api.OK {
		return 0, fault
	}
	if n < 0 || n > most(p) {
		return 0, api.ErrRange
	}
	return measure(p, n), api.OK
}

// Convert returns the stamp of another rate that has as many frames ahead of it as have ended by then.
func Convert(from, to int, s api.Stamp) (api.Stamp, api.Fault) {
	other, fault := paceOf(to)
	if fault != api.OK {
		return api.Stamp{}, fault
	}
	n, p, fault := counted(from, s)
	if fault != api.OK {
		return api.Stamp{}, fault
	}
	ended := n * p.span * other.second / (p.second * other.span)
	return other.stamp(other.around(ended)), api.OK
}
