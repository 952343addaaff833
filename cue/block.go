package cue

import (
	"slices"

	"cyclorama/api"
)

// clean takes moves out of a cue that change nothing behind a state.
func clean(c *api.Cue, ahead state) {
	c.Moves = slices.DeleteFunc(c.Moves, func(m api.Move) bool { return m == ahead.move(m.Key) })
}

// Clean takes out moves that change nothing.
func Clean(l []api.Cue) ([]api.Cue, api.Fault) {
	if fault := checkForm(l); fault != api.OK {
		return nil, fault
	}
	list, ahead := clone(l), state{}
	for i := range list {
		if !list[i].Block {
			clean(&list[i], ahead)
		}
		ahead.goOn(list[i])
	}
	return list, api.OK
}

// Block gives a cue moves of all that is to be seen at it.
func Block(l []api.Cue, number int) ([]api.Cue, api.Fault) {
	i, fault := locate(l, number)
	if fault != api.OK {
		return nil, fault
	}
	list := clone(l)
	at := stateOf(list[:i+1])
	list[i].Block = true
	list[i].Moves = overlay(at.moves(at.keys()), list[i].Moves)
	return checked(list)
}

// Unblock takes Block away from a cue, with the moves that change nothing.
func Unblock(l []api.Cue, number int) ([]api.Cue, api.Fault) {
	i, fault := locate(l, number)
	if fault != api.OK {
		return nil, fault
	}
	list := clone(l)
	list[i].Block = false
	clean(&list[i], stateOf(list[:i]))
	return list, api.OK
}
