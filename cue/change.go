package cue

import (
	"maps"
	"slices"

	"cyclorama/api"
)

func newCue(number int) api.Cue {
	return api.Cue{Number: number, Curve: api.Curve{Kind: api.CurveLinear}, Follow: noFollow}
}

func isWay(way int) bool { return way == api.RecordTrack || way == api.RecordOnly }

// checked returns a list that was made, if it is right.
func checked(l []api.Cue) ([]api.Cue, api.Fault) {
	if fault := checkForm(l); fault != api.OK {
		return nil, fault
	}
	return l, api.OK
}

// overlay returns the moves of two lists, in their order: of two of one key the upper one.
func overlay(lower, upper []api.Move) []api.Move {
	moves := map[api.Key]api.Move{}
	for _, m := range lower {
		moves[m.Key] = m
	}
	for _, m := range upper {
		moves[m.Key] = m
	}
	return slices.SortedFunc(maps.Values(moves), compareMoves)
}

// without returns the moves of a list whose keys other moves do not have.
func without(l, others []api.Move) []api.Move {
	have := map[api.Key]bool{}
	for _, m := range others {
		have[m.Key] = true
	}
	return slices.DeleteFunc(slices.Clone(l), func(m api.Move) bool { return have[m.Key] })
}

// pass gives moves to the cue which, from the place i on, is the first one that a way lets look as before: the next one, or the next one with Block. What it, or a cue between, moves by itself is not given.
func pass(l []api.Cue, i, way int, moves []api.Move) {
	for ; i < len(l); i++ {
		if way == api.RecordOnly || l[i].Block {
			l[i].Moves = overlay(moves, l[i].Moves)
			return
		}
		moves = without(moves, l[i].Moves)
	}
}

// Record gives a cue moves.
func Record(l []api.Cue, number int, moves []api.Move, way int) ([]api.Cue, api.Fault) {
	if fault := checkForm(l); fault != api.OK {
		return nil, fault
	}
	if !isNumber(number) {
		return nil, api.ErrRange
	}
	if fault := checkMoves(moves); fault != api.OK {
		return nil, fault
	}
	if !isWay(way) {
		return nil, api.ErrKind
	}
	list := clone(l)
	i, there := find(list, number)
	if !there {
		list = slices.Insert(list, i, newCue(number))
	}
	// Where a later cue gets a key, nothing moves it between: what it was there is what it was here.
	before := stateOf(list[:i+1])
	var keys []api.Key
	for _, m := range moves {
		keys = append(keys, m.Key)
	}
	list[i].Moves = overlay(list[i].Moves, moves)
	pass(list, i+1, way, before.moves(keys))
	return checked(list)
}

// Delete takes a cue out.
func Delete(l []api.Cue, number int, way int) ([]api.Cue, api.Fault) {
	i, fault := locate(l, number)
	if fault != api.OK {
		return nil, fault
	}
	if !isWay(way) {
		return nil, api.ErrKind
	}
	list := clone(l)
	moves := list[i].Moves
	list = slices.Delete(list, i, i+1)
	pass(list, i, way, moves)
	return checked(list)
}

// Copy makes a cue that looks like another one.
func Copy(l []api.Cue, from, to int) ([]api.Cue, api.Fault) {
	i, fault := locate(l, from)
	if fault != api.OK {
		return nil, fault
	}
	if !isNumber(to) {
		return nil, api.ErrRange
	}
	place, there := find(l, to)
	if there {
		return nil, api.ErrTwice
	}
	before, like := stateOf(l[:place]), stateOf(l[:i+1])
	keys := differing(before, like)
	c := cloneCue(l[i])
	c.Number = to
	c.Moves = overlay(nil, like.moves(keys))
	list := slices.Insert(clone(l), place, c)
	pass(list, place+1, api.RecordOnly, before.moves(keys))
	return checked(list)
}

// differing returns the keys that are not the same in two states, in any order.
func differing(a, b state) []api.Key {
	var keys []api.Key
	for k := range a {
		if a.move(k) != b.move(k) {
			keys = append(keys, k)
		}
	}
	for k := range b {
		if _, there := a[k]; !there {
			keys = append(keys, k)
		}
	}
	return keys
}

// Renumber gives a cue another number at its place.
func Renumber(l []api.Cue, from, to int) ([]api.Cue, api.Fault) {
	i, fault := locate(l, from)
	if fault != api.OK {
		return nil, fault
	}
	switch {
	case !isNumber(to):
		return nil, api.ErrRange
	case i > 0 && to <= l[i-1].Number || i+1 < len(l) && to >= l[i+1].Number:
		return nil, api.ErrOrder
	}
	list := clone(l)
	list[i].Number = to
	return list, api.OK
}

// Shift moves a cue to another place, and lets all cues look as they did.
func Shift(l []api.Cue, from, to int) ([]api.Cue, api.Fault) {
	copied, fault := Copy(l, from, to)
	if fault != api.OK {
		return nil, fault
	}
	return Delete(copied, from, api.RecordOnly)
}
