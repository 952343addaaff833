package cue_test

import (
	"fmt"
	"testing"

	"cyclorama/api"
	"cyclorama/cue"
)

// story is a list of which much tracks.
const story = `cue 1
  1.dim full
  1.pan preset 1
  10.pan #9
cue 1.5
cue 2
  1.dim release in 3
  1.zoom #7
  2.left 50% in 1 after 2
cue 3 block
  1.dim 50%
  10.pan release
cue 5
  1.pan preset 1
  10.pan #11
`

func entry(unit int, param string, level, preset, cue int) api.Entry {
	return api.Entry{Key: api.Key{Unit: unit, Param: param}, Value: api.Value{Level: level, Preset: preset}, Cue: cue}
}

func TestState(t *testing.T) {
	l := read(t, story)
	dim, pan, far, zoom, left := entry(1, "dim", api.Full, 0, 1000), entry(1, "pan", 0, 1, 1000), entry(10, "pan", 9, 0, 1000), entry(1, "zoom", 7, 0, 2000), entry(2, "left", 32768, 0, 2000)
	for number, want := range map[int][]api.Entry{
		1000: {dim, pan, far},
		1500: {dim, pan, far},
		2000: {pan, zoom, left, far},
		// Block does not take away what was there.
		3000: {entry(1, "dim", 32768, 0, 3000), pan, zoom, left},
		5000: {entry(1, "dim", 32768, 0, 3000), entry(1, "pan", 0, 1, 5000), zoom, left, entry(10, "pan", 11, 0, 5000)},
	} {
		same(t, fmt.Sprint("State at ", number), results(cue.State(l, number)), results(want, api.OK))
	}
	for _, number := range append(farNumbers, -1, 0, 1, 999, 1001, 4000, 5001) {
		same(t, fmt.Sprint("State at ", number), results(cue.State(l, number)), results([]api.Entry(nil), api.ErrNone))
	}
	same(t, "State of no list", results(cue.State(nil, 1)), results([]api.Entry(nil), api.ErrNone))
	same(t, "State of a cue without moves", results(cue.State(cues(1), 1)), results([]api.Entry(nil), api.OK))
	// Units are ordered as numbers.
	s, _ := cue.State([]api.Cue{plain(1, to(10, "a", 1)), plain(2, to(9, "b", 1)), plain(3, to(9, "a", 1))}, 3)
	same(t, "the order", s, []api.Entry{entry(9, "a", 1, 0, 3), entry(9, "b", 1, 0, 2), entry(10, "a", 1, 0, 1)})
}

func TestLevels(t *testing.T) {
	l := read(t, story)
	// The order of keys: zoom, dim, pan of 1; tilt, right, left of 2; fan, amount of 3; red, dim of 4; zoom, dim, pan of 10.
	keys := []api.Setting{
		setting(1, "zoom", 0), setting(1, "dim", 0), setting(1, "pan", 0), setting(2, "tilt", 0), setting(2, "right", 0), setting(2, "left", 0),
		setting(3, "fan", 0), setting(3, "amount", 0), setting(4, "red", 0), setting(4, "dim", 0), setting(10, "zoom", 0), setting(10, "dim", 0), setting(10, "pan", 0),
	}
	for number, levels := range map[int][]int{
		1000: {0, 65535, 7, 0, 0, 0, 0, 0, 0, 65535, 0, 0, 9},
		2000: {7, 0, 7, 0, 0, 32768, 0, 0, 0, 65535, 0, 0, 9},
		3000: {7, 32768, 7, 0, 0, 32768, 0, 0, 0, 65535, 0, 0, 500},
		5000: {7, 32768, 7, 0, 0, 32768, 0, 0, 0, 65535, 0, 0, 11},
	} {
		for i, n := range levels {
			keys[i].Level = n
		}
		same(t, fmt.Sprint("Levels at ", number), results(cue.Levels(stage(), looks(), l, number)), results(keys, api.OK))
	}
	for _, number := range append(farNumbers, -1, 0, 999, 4000, 5001) {
		same(t, fmt.Sprint("Levels at ", number), results(cue.Levels(stage(), looks(), l, number)), results([]api.Setting(nil), api.ErrNone))
	}
	same(t, "Levels of no rig", results(cue.Levels(api.Rig{}, nil, cues(1), 1)), results([]api.Setting(nil), api.OK))
}
