// Package cue has cue lists that track: what is right in them, their texts, the states at their cues, and changes of them.
package cue

import (
	"cmp"
	"slices"

	"cyclorama/api"
	"cyclorama/level"
	"cyclorama/pick"
	"cyclorama/words"
)

// noFollow is the Follow of a cue that no other one follows by itself.
const noFollow = -1

// checkForm says what is wrong with a list, whatever it is of.
func checkForm(l []api.Cue) api.Fault {
	if len(l) > api.MaxCues {
		return api.ErrLarge
	}
	ahead, moves := 0, 0
	for _, c := range l {
		if fault := checkCue(c, ahead); fault != api.OK {
			return fault
		}
		ahead = c.Number
		moves += len(c.Moves)
	}
	if moves > api.MaxListMoves {
		return api.ErrLarge
	}
	return api.OK
}

// checkCue validates a cue behind one that has the number ahead.
func checkCue(c api.Cue, ahead int) api.Fault {
	switch {
	case !isNumber(c.Number):
		return api.ErrRange
	case c.Number <= ahead:
		return api.ErrOrder
	case c.Title != "" && !words.IsTitle(c.Title):
		return api.ErrForm
	case !areTimes(c.Delay, c.Up, c.Down, c.Other) || c.Follow < noFollow || c.Follow > api.MaxFollow:
		return api.ErrRange
	}
	if fault := level.CheckCurve(c.Curve); fault != api.OK {
		return fault
	}
	return checkMoves(c.Moves)
}

func isNumber(n int) bool { return n >= 1 && n <= api.MaxCue }

func areTimes(l ...int) bool {
	for _, n := range l {
		if !level.IsTime(n) {
			return false
		}
	}
	return true
}

// checkMoves validates the moves of a cue.
func checkMoves(l []api.Move) api.Fault {
	if len(l) > api.MaxSettings {
		return api.ErrLarge
	}
	for i, m := range l {
		if fault := checkMove(m); fault != api.OK {
			return fault
		}
		if i > 0 && compareMoves(m, l[i-1]) <= 0 {
			return api.ErrOrder
		}
	}
	return api.OK
}

// checkMove validates a move but for its place.
func checkMove(m api.Move) api.Fault {
	v := m.Value
	switch {
	case m.Key.Unit < 1 || m.Key.Unit > api.MaxUnit:
		return api.ErrRange
	case !words.IsName(m.Key.Param):
		return api.ErrName
	case m.Release && v != api.Value{} || v.Level != 0 && v.Preset != 0:
		return api.ErrForm
	case !level.IsLevel(v.Level) || v.Preset < 0 || v.Preset > api.MaxPreset:
		return api.ErrRange
	case !m.Timed && (m.Delay != 0 || m.Time != 0):
		return api.ErrForm
	case !areTimes(m.Delay, m.Time):
		return api.ErrRange
	}
	return api.OK
}

// compareMoves orders moves by their keys.
func compareMoves(a, b api.Move) int { return pick.CompareKeys(a.Key, b.Key) }

// find returns the place of the cue with a number, or where it would stand, and whether it is there.
func find(l []api.Cue, number int) (int, bool) {
	return slices.BinarySearchFunc(l, number, func(c api.Cue, number int) int { return cmp.Compare(c.Number, number) })
}

// locate returns the place of a cue that must be there, in a list that must be right.
func locate(l []api.Cue, number int) (int, api.Fault) {
	if fault := checkForm(l); fault != api.OK {
		return 0, fault
	}
	i, there := find(l, number)
	if !there {
		return 0, api.ErrNone
	}
	return i, api.OK
}

// clone returns a list that shares no memory with this one.
func clone(l []api.Cue) []api.Cue {
	all := make([]api.Cue, len(l))
	for i, c := range l {
		all[i] = cloneCue(c)
	}
	return all
}

func cloneCue(c api.Cue) api.Cue {
	c.Curve.Points = append([]api.Point(nil), c.Curve.Points...)
	c.Moves = append([]api.Move(nil), c.Moves...)
	return c
}
