package pick

import (
	"cyclorama/api"
	"cyclorama/level"
)

// CheckFan validates a fan.
func CheckFan(f api.Fan) api.Fault {
	switch {
	case len(f.Corners) == 0:
		return api.ErrNone
	case len(f.Corners) > api.MaxCorners:
		return api.ErrLarge
	}
	for _, n := range f.Corners {
		if !level.IsLevel(n) {
			return api.ErrRange
		}
	}
	if !within(f.Block, api.MaxUnit) || !within(f.Wings, api.MaxWings) {
		return api.ErrRange
	}
	return api.OK
}

// Levels returns the levels of n units along a fan.
func Levels(f api.Fan, n int) ([]int, api.Fault) {
	if fault := CheckFan(f); fault != api.OK {
		return nil, fault
	}
	if n < 0 || n > api.MaxUnits {
		return nil, api.ErrRange
	}
	return levels(f, n), api.OK
}

// levels does so for a right fan, and a number of units that can be.
func levels(f api.Fan, n int) []int {
	span := upQuotient(upQuotient(n, f.Block), f.Wings)
	along, _ := level.Spread(f.Corners, span)
	l := make([]int, n)
	for i := range l {
		wing, place := i/f.Block/span, i/f.Block%span
		if wing%2 == 1 {
			place = span - 1 - place
		}
		l[i] = along[place]
	}
	return l
}

// upQuotient returns a / b, rounded up, for a from 0 on and b from 1 on.
func upQuotient(a, b int) int { return (a + b - 1) / b }

// Spread returns settings of a parameter of units along a fan.
func Spread(r api.Rig, units []int, param string, f api.Fan) ([]api.Setting, api.Fault) {
	keys, fault := keysOf(r)
	if fault != api.OK {
		return nil, fault
	}
	if fault := CheckFan(f); fault != api.OK {
		return nil, fault
	}
	if len(units) > api.MaxUnits {
		return nil, api.ErrLarge
	}
	seen := map[int]bool{}
	settings := make([]api.Setting, len(units))
	for i, n := range levels(f, len(units)) {
		s := api.Setting{Key: api.Key{Unit: units[i], Param: param}, Level: n}
		switch {
		case !keys[s.Key]:
			return nil, api.ErrNone
		case seen[s.Key.Unit]:
			return nil, api.ErrTwice
		}
		seen[s.Key.Unit] = true
		settings[i] = s
	}
	return settings, api.OK
}
