package colour

import (
	"cyclorama/api"
	"cyclorama/level"
)

// The circle of hues has six parts of Full each.
const (
	sixths = 6
	circle = sixths * api.Full
)

// ToneOf returns the tone of a colour.
func ToneOf(c api.Colour) (api.Tone, api.Fault) {
	if fault := Check(c); fault != api.OK {
		return api.Tone{}, fault
	}
	return toneOf(c), api.OK
}

func toneOf(c api.Colour) api.Tone {
	most, least := max(c.Red, c.Green, c.Blue), min(c.Red, c.Green, c.Blue)
	if most == least {
		return api.Tone{Value: most}
	}
	return api.Tone{Hue: hueOf(c, most, most-least), Saturation: rounded((most-least)*api.Full, most), Value: most}
}

// hueOf returns the hue of a colour with this greatest component, which is more than the least one by span.
func hueOf(c api.Colour, most, span int) int {
	var sixth, beyond int
	switch most {
	case c.Red:
		// A circle more keeps the hues ahead of red from being below 0.
		sixth, beyond = sixths, c.Green-c.Blue
	case c.Green:
		sixth, beyond = 2, c.Blue-c.Red
	default:
		sixth, beyond = 4, c.Red-c.Green
	}
	return rounded((sixth*span+beyond)*api.Full, span) % circle
}

// FromTone returns the colour of a tone.
func FromTone(t api.Tone) (api.Colour, api.Fault) {
	if t.Hue < 0 || t.Hue >= circle || !level.IsLevel(t.Saturation) || !level.IsLevel(t.Value) {
		return api.Colour{}, api.ErrRange
	}
	return fromTone(t), api.OK
}

func fromTone(t api.Tone) api.Colour {
	const square = api.Full * api.Full
	// less returns the Value without a part of the Saturation.
	less := func(part int) int { return rounded(t.Value*(square-t.Saturation*part), square) }
	sixth, rest := t.Hue/api.Full, t.Hue%api.Full
	most, least, falling, growing := t.Value, less(api.Full), less(rest), less(api.Full-rest)
	switch sixth {
	case 0:
		return api.Colour{Red: most, Green: growing, Blue: least}
	case 1:
		return api.Colour{Red: falling, Green: most, Blue: least}
	case 2:
		return api.Colour{Red: least, Green: most, Blue: growing}
	case 3:
		return api.Colour{Red: least, Green: falling, Blue: most}
	case 4:
		return api.Colour{Red: growing, Green: least, Blue: most}
	}
	return api.Colour{Red: most, Green: least, Blue: falling}
}
