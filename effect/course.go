package effect

import "cyclorama/api"

// hundredths are the parts of a millisecond that clocks count.
const hundredths = 100

// maxClock is what a clock shows that runs as fast as it can for as long as it can.
const maxClock = api.MaxRate * api.MaxTime

// place is where in its cycles a unit is: at part / whole of the one with the number turn.
type place struct{ index, turn, part, whole int }

// course is an effect on count units, at a clock.
type course struct {
	effect       api.Effect
	wave         wave
	count, clock int
}

func courseOf(e api.Effect, count, clock int) course {
	return course{e, waveOf(e), count, clock}
}

// way returns the way of the unit with a number.
func (c course) way(index int) fraction { return c.wave.way(c.place(index)) }

// place returns the place of the unit with a number. All its parts are whole numbers, which 64 bits hold at the greatest cycle, clock, spread and count.
func (c course) place(index int) place {
	cycle := cycleOf(c.effect) * hundredths
	whole := cycle * api.MaxPart * c.count
	gone := c.clock*api.MaxPart*c.count - c.effect.Spread*index*cycle
	part := gone % whole
	if part < 0 {
		part += whole
	}
	turn := (gone - part) / whole
	if c.effect.Back && part > 0 {
		part = whole - part
	}
	return place{index, turn, part, whole}
}

// Way returns the way of a unit at a clock, in levels.
func Way(e api.Effect, index, count, clock int) (int, api.Fault) {
	if fault := Check(e); fault != api.OK {
		return 0, fault
	}
	if count < 1 || count > api.MaxTargets || index < 0 || index >= count || clock < 0 || clock > maxClock {
		return 0, api.ErrRange
	}
	return of(api.Full).times(courseOf(e, count, clock).way(index)).rounded(), api.OK
}
