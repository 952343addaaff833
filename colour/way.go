package colour

import (
	"cyclorama/api"
	"cyclorama/level"
)

// journey returns the colour after part / whole of a way.
type journey func(part, whole int) api.Colour

// Between returns the colour after part / whole of the way from a to b.
func Between(a, b api.Colour, way, part, whole int) (api.Colour, api.Fault) {
	if fault := checkBoth(a, b); fault != api.OK {
		return api.Colour{}, fault
	}
	at := journeyBy(way, a, b)
	switch {
	case at == nil:
		return api.Colour{}, api.ErrKind
	case !level.IsPart(part, whole):
		return api.Colour{}, api.ErrRange
	// The ends are looked at by themselves, since the colour of a tone can be another one than that which has it.
	case part == 0:
		return a, api.OK
	case part == whole:
		return b, api.OK
	}
	return at(part, whole), api.OK
}

// journeyBy returns the journey from a to b by a way, or nil if there is no such way.
func journeyBy(way int, a, b api.Colour) journey {
	switch way {
	case api.WayStraight:
		return straight(a, b)
	case api.WayShort:
		return around(toneOf(a), toneOf(b), shortTurn)
	case api.WayLong:
		return around(toneOf(a), toneOf(b), longTurn)
	}
	return nil
}

func straight(a, b api.Colour) journey {
	return func(part, whole int) api.Colour {
		return build(func(of component) int { return mix(of(a), of(b), part, whole) })
	}
}

// around returns the journey on which the hue turns by what turn makes of the way up.
func around(from, to api.Tone, turn func(up int) int) journey {
	// A colour without saturation has no hue of its own.
	if from.Saturation == 0 {
		from.Hue = to.Hue
	}
	if to.Saturation == 0 {
		to.Hue = from.Hue
	}
	turned := turn((to.Hue - from.Hue + circle) % circle)
	return func(part, whole int) api.Colour {
		// A circle more keeps the sum from falling below 0.
		hue := rounded((circle+from.Hue)*whole+turned*part, whole) % circle
		return fromTone(api.Tone{
			Hue:        hue,
			Saturation: mix(from.Saturation, to.Saturation, part, whole),
			Value:      mix(from.Value, to.Value, part, whole),
		})
	}
}

func shortTurn(up int) int {
	if up <= circle/2 {
		return up
	}
	return up - circle
}

func longTurn(up int) int {
	if up > circle/2 || up == 0 {
		return up
	}
	return up - circle
}

// mix returns level.Mix of what are known to be levels, and a part.
func mix(a, b, part, whole int) int {
	n, _ := level.Mix(a, b, part, whole)
	return n
}
