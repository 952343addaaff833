package cue

import (
	"slices"

	"cyclorama/api"
)

// unitKeys is the keys of a unit.
type unitKeys struct {
	unit int
	keys []api.Key
}

// units returns the keys of the rig, unit by unit.
func (s scene) units() []unitKeys {
	var units []unitKeys
	for _, k := range s.keys {
		if len(units) == 0 || units[len(units)-1].unit != k.Unit {
			units = append(units, unitKeys{unit: k.Unit})
		}
		last := &units[len(units)-1]
		last.keys = append(last.keys, k)
	}
	return units
}

// watch returns a function that follows a unit through a list: called for one cue after the other, with the number of the cue and its moves of the unit, it says whether there is a mark to this cue, and from which one.
func (s scene) watch(keys []api.Key) func(number int, moves []api.Move) (from int, marked bool) {
	levels := map[api.Key]int{}
	var dims []api.Key
	for _, k := range keys {
		levels[k] = s.params[k].Default
		if s.isIntensity(k) {
			dims = append(dims, k)
		}
	}
	isLit := func(k api.Key) bool { return levels[k] > 0 }
	// Whether it was dark at the cue ahead, and, if so, the first cue in which its other parameters could be moved.
	dark, first := false, 0
	return func(number int, moves []api.Move) (int, bool) {
		moved, changed := false, false
		for _, m := range moves {
			n := s.level(m)
			if !s.isIntensity(m.Key) {
				moved = true
				changed = changed || n != levels[m.Key]
			}
			levels[m.Key] = n
		}
		wasDark, from := dark, first
		dark = len(dims) > 0 && !slices.ContainsFunc(dims, isLit)
		if !wasDark || moved {
			first = number
		}
		return from, wasDark && !dark && changed
	}
}

// marks returns the marks of a list that is right.
func (s scene) marks(l []api.Cue) []api.Mark {
	units := s.units()
	watches := make([]func(number int, moves []api.Move) (int, bool), len(units))
	for i, u := range units {
		watches[i] = s.watch(u.keys)
	}
	var marks []api.Mark
	for _, c := range l {
		moves := map[int][]api.Move{}
		for _, m := range c.Moves {
			moves[m.Key.Unit] = append(moves[m.Key.Unit], m)
		}
		for i, u := range units {
			if from, marked := watches[i](c.Number, moves[u.unit]); marked {
				marks = append(marks, api.Mark{Unit: u.unit, From: from, To: c.Number})
			}
		}
	}
	return marks
}

// Marks returns which units can be made ready for a cue while they are dark.
func Marks(r api.Rig, presets []api.Preset, l []api.Cue) ([]api.Mark, api.Fault) {
	s, fault := sceneOf(r, presets, l)
	if fault != api.OK {
		return nil, fault
	}
	return s.marks(l), api.OK
}

// Marked returns the list in which they are.
func Marked(r api.Rig, presets []api.Preset, l []api.Cue) ([]api.Cue, api.Fault) {
	s, fault := sceneOf(r, presets, l)
	if fault != api.OK {
		return nil, fault
	}
	list := clone(l)
	for _, mark := range s.marks(l) {
		from, _ := find(list, mark.From)
		to, _ := find(list, mark.To)
		isReady := func(m api.Move) bool { return m.Key.Unit == mark.Unit && !s.isIntensity(m.Key) }
		var ready []api.Move
		for _, m := range list[to].Moves {
			if isReady(m) {
				ready = append(ready, api.Move{Key: m.Key, Value: m.Value, Release: m.Release})
			}
		}
		list[to].Moves = slices.DeleteFunc(list[to].Moves, isReady)
		list[from].Moves = overlay(list[from].Moves, ready)
	}
	return checked(list)
}
