package colour

import (
	"cyclorama/api"
	"cyclorama/level"
	"cyclorama/words"
)

// CheckEmitters validates the emitters of a fixture.
func CheckEmitters(l []api.Emitter) api.Fault {
	switch {
	case len(l) == 0:
		return api.ErrNone
	case len(l) > api.MaxEmitters:
		return api.ErrLarge
	}
	names := map[string]bool{}
	for _, e := range l {
		switch {
		case !words.IsName(e.Name):
			return api.ErrName
		case names[e.Name]:
			return api.ErrTwice
		}
		names[e.Name] = true
		if fault := Check(e.Colour); fault != api.OK {
			return fault
		}
		if e.Colour == (api.Colour{}) {
			return api.ErrNone
		}
	}
	return api.OK
}

// Given returns the colour that emitters with levels give.
func Given(l []api.Emitter, levels []int) (api.Colour, api.Fault) {
	if fault := CheckEmitters(l); fault != api.OK {
		return api.Colour{}, fault
	}
	if len(levels) != len(l) {
		return api.Colour{}, api.ErrForm
	}
	for _, n := range levels {
		if !level.IsLevel(n) {
			return api.Colour{}, api.ErrRange
		}
	}
	return given(l, levels), api.OK
}

func given(l []api.Emitter, levels []int) api.Colour {
	return build(func(of component) int {
		return min(rounded(sum(l, levels, of), api.Full), api.Full)
	})
}

// sum returns how much of a component emitters with levels give together, in parts of Full.
func sum(l []api.Emitter, levels []int, of component) int {
	total := 0
	for i, e := range l {
		total += of(e.Colour) * levels[i]
	}
	return total
}

// Drive returns levels at which emitters give a colour, as far as they can, and what they give.
func Drive(l []api.Emitter, c api.Colour) ([]int, api.Colour, api.Fault) {
	if fault := CheckEmitters(l); fault != api.OK {
		return nil, api.Colour{}, fault
	}
	if fault := Check(c); fault != api.OK {
		return nil, api.Colour{}, fault
	}
	levels := make([]int, len(l))
	for i, e := range l {
		// The emitters from this one on still have the level 0.
		left := func(of component) int { return api.Full*of(c) - sum(l, levels, of) }
		levels[i] = greatest(e.Colour, left)
	}
	return levels, given(l, levels), api.OK
}

// greatest returns the greatest level at which an emitter gives no more of any component than is left of it.
func greatest(c api.Colour, left func(of component) int) int {
	most := build(func(of component) int {
		if of(c) == 0 {
			return api.Full
		}
		return min(left(of)/of(c), api.Full)
	})
	return min(most.Red, most.Green, most.Blue)
}
