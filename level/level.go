// Package level has levels and times: their texts, the arithmetic of levels, curves, and fades.
package level

import "cyclorama/api"

// IsLevel says whether a number is a level.
func IsLevel(n int) bool { return n >= 0 && n <= api.Full }

// IsTime says whether a number is a time.
func IsTime(n int) bool { return n >= 0 && n <= api.MaxTime }

// IsPart says whether part / whole can be done of something.
func IsPart(part, whole int) bool {
	return whole >= 1 && whole <= api.MaxTime && part >= 0 && part <= whole
}

func areLevels(l ...int) bool {
	for _, n := range l {
		if !IsLevel(n) {
			return false
		}
	}
	return true
}

// Scale returns a times b / Full, rounded.
func Scale(a, b int) (int, api.Fault) {
	if !areLevels(a, b) {
		return 0, api.ErrRange
	}
	return share(b, api.Full).of(a), api.OK
}

// Mix returns the level after part / whole of the way from a to b, rounded.
func Mix(a, b, part, whole int) (int, api.Fault) {
	if !areLevels(a, b) || !IsPart(part, whole) {
		return 0, api.ErrRange
	}
	return share(part, whole).between(a, b), api.OK
}

// Octet returns the byte that a level has in a slot.
func Octet(level int) (byte, api.Fault) {
	if !IsLevel(level) {
		return 0, api.ErrRange
	}
	return byte(share(level, api.Full).of(255)), api.OK
}

// FromOctet returns the level of a byte.
func FromOctet(b byte) int { return 257 * int(b) }

// Highest returns the greatest level of a list, 0 for an empty one.
func Highest(l []int) (int, api.Fault) {
	if !areLevels(l...) {
		return 0, api.ErrRange
	}
	highest := 0
	for _, n := range l {
		highest = max(highest, n)
	}
	return highest, api.OK
}

// Spread returns n levels at equal distances along the corners l.
func Spread(l []int, n int) ([]int, api.Fault) {
	switch {
	case len(l) > api.MaxSpread:
		return nil, api.ErrLarge
	case !areLevels(l...):
		return nil, api.ErrRange
	case len(l) == 0:
		return nil, api.ErrNone
	case n < 0 || n > api.MaxSpread:
		return nil, api.ErrRange
	}
	// One level alone stands at the first corner; it has no distance to divide by.
	gaps := max(n-1, 1)
	spread := make([]int, n)
	for i := range spread {
		corner, part := i*(len(l)-1)/gaps, i*(len(l)-1)%gaps
		spread[i] = l[corner]
		if part > 0 {
			spread[i] = share(part, gaps).between(l[corner], l[corner+1])
		}
	}
	return spread, api.OK
}
