package cue

import (
	"maps"
	"slices"

	"cyclorama/api"
	"cyclorama/pick"
)

// state is the values that keys have at a cue.
type state map[api.Key]api.Entry

// stateOf returns the state at the last one of the first cues of a list.
func stateOf(l []api.Cue) state {
	s := state{}
	for _, c := range l {
		s.goOn(c)
	}
	return s
}

// goOn makes the state that at the next cue.
func (s state) goOn(c api.Cue) {
	for _, m := range c.Moves {
		if m.Release {
			delete(s, m.Key)
		} else {
			s[m.Key] = api.Entry{Key: m.Key, Value: m.Value, Cue: c.Number}
		}
	}
}

// keys returns the keys that have values, in their order.
func (s state) keys() []api.Key { return slices.SortedFunc(maps.Keys(s), pick.CompareKeys) }

// move returns the move, without Timed, by which a key comes to what it is in the state.
func (s state) move(k api.Key) api.Move {
	e, there := s[k]
	return api.Move{Key: k, Value: e.Value, Release: !there}
}

// moves returns such moves for keys.
func (s state) moves(keys []api.Key) []api.Move {
	l := make([]api.Move, len(keys))
	for i, k := range keys {
		l[i] = s.move(k)
	}
	return l
}

// State returns the values of all keys that have one at a cue.
func State(l []api.Cue, number int) ([]api.Entry, api.Fault) {
	i, fault := locate(l, number)
	if fault != api.OK {
		return nil, fault
	}
	s := stateOf(l[:i+1])
	var entries []api.Entry
	for _, k := range s.keys() {
		entries = append(entries, s[k])
	}
	return entries, api.OK
}
