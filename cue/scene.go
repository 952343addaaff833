package cue

import (
	"cyclorama/api"
	"cyclorama/fixture"
	"cyclorama/pick"
)

// scene is what the moves of a list are about: the keys of a rig, in their order, its parameters, and presets.
type scene struct {
	keys    []api.Key
	params  map[api.Key]api.Param
	presets []api.Preset
}

// sceneOf returns the scene of a list that is right in it, or the error of CheckList.
func sceneOf(r api.Rig, presets []api.Preset, l []api.Cue) (scene, api.Fault) {
	if fault := pick.CheckPresets(r, presets); fault != api.OK {
		return scene{}, fault
	}
	if fault := checkForm(l); fault != api.OK {
		return scene{}, fault
	}
	s := scene{presets: presets}
	// CheckPresets has found the rig right, so that these have no errors.
	s.keys, _ = fixture.Keys(r)
	s.params, _ = fixture.Params(r)
	for _, c := range l {
		for _, m := range c.Moves {
			if !s.has(m) {
				return scene{}, api.ErrNone
			}
		}
	}
	return s, api.OK
}

// has says whether the key and the value of a move of the right form are there.
func (s scene) has(m api.Move) bool {
	_, known := s.params[m.Key]
	_, fault := pick.Level(s.presets, m.Key, m.Value)
	return known && fault == api.OK
}

// level returns the level that a key gets by a move that is right.
func (s scene) level(m api.Move) int {
	if m.Release {
		return s.params[m.Key].Default
	}
	n, _ := pick.Level(s.presets, m.Key, m.Value)
	return n
}

func (s scene) isIntensity(k api.Key) bool { return s.params[k].Group == api.Intensity }

// CheckList validates a list for a rig and presets.
func CheckList(r api.Rig, presets []api.Preset, l []api.Cue) api.Fault {
	_, fault := sceneOf(r, presets, l)
	return fault
}

// Levels returns the levels of all keys of a rig at a cue.
func Levels(r api.Rig, presets []api.Preset, l []api.Cue, number int) ([]api.Setting, api.Fault) {
	s, fault := sceneOf(r, presets, l)
	if fault != api.OK {
		return nil, fault
	}
	i, there := find(l, number)
	if !there {
		return nil, api.ErrNone
	}
	at := stateOf(l[:i+1])
	levels := make([]api.Setting, len(s.keys))
	for i, k := range s.keys {
		levels[i] = api.Setting{Key: k, Level: s.level(at.move(k))}
	}
	return levels, api.OK
}
