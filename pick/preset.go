package pick

import (
	"cmp"
	"maps"
	"slices"

	"cyclorama/api"
	"cyclorama/fixture"
	"cyclorama/level"
	"cyclorama/words"
)

// maxGiven is how many settings, of the same keys or not, can be given at a time.
const maxGiven = 10 * api.MaxSettings

// keySet is the keys of a rig.
type keySet map[api.Key]bool

func keysOf(r api.Rig) (keySet, api.Fault) {
	l, fault := fixture.Keys(r)
	if fault != api.OK {
		return nil, fault
	}
	k := keySet{}
	for _, key := range l {
		k[key] = true
	}
	return k, api.OK
}

// CompareKeys orders keys by unit, then by parameter.
func CompareKeys(a, b api.Key) int {
	return cmp.Or(cmp.Compare(a.Unit, b.Unit), cmp.Compare(a.Param, b.Param))
}

// checkSetting validates a setting but for its place.
func (k keySet) checkSetting(s api.Setting) api.Fault {
	switch {
	case !k[s.Key]:
		return api.ErrNone
	case !level.IsLevel(s.Level):
		return api.ErrRange
	}
	return api.OK
}

// CheckPresets validates presets of a rig.
func CheckPresets(r api.Rig, l []api.Preset) api.Fault {
	_, fault := keysFor(r, l)
	return fault
}

// keysFor returns the keys of a rig with presets, or the error of CheckPresets.
func keysFor(r api.Rig, l []api.Preset) (keySet, api.Fault) {
	k, fault := keysOf(r)
	if fault != api.OK {
		return nil, fault
	}
	if len(l) > api.MaxPresets {
		return nil, api.ErrLarge
	}
	ahead := 0
	for _, p := range l {
		if fault := k.checkPreset(p, ahead); fault != api.OK {
			return nil, fault
		}
		ahead = p.Number
	}
	return k, api.OK
}

// checkPreset validates a preset behind one that has the number ahead.
func (k keySet) checkPreset(p api.Preset, ahead int) api.Fault {
	switch {
	case !within(p.Number, api.MaxPreset):
		return api.ErrRange
	case p.Number <= ahead:
		return api.ErrOrder
	case !canTitle(p.Title):
		return api.ErrForm
	case len(p.Settings) > api.MaxSettings:
		return api.ErrLarge
	}
	for i, s := range p.Settings {
		if fault := k.checkSetting(s); fault != api.OK {
			return fault
		}
		if i > 0 && CompareKeys(s.Key, p.Settings[i-1].Key) <= 0 {
			return api.ErrOrder
		}
	}
	return api.OK
}

// canTitle says whether a preset can have this as its Title.
func canTitle(title string) bool { return title == "" || words.IsTitle(title) }

// Sorted returns settings by their keys, of several for one key the last one.
func Sorted(l []api.Setting) ([]api.Setting, api.Fault) {
	if len(l) > maxGiven {
		return nil, api.ErrLarge
	}
	return sorted(l), api.OK
}

func sorted(lists ...[]api.Setting) []api.Setting {
	last := map[api.Key]int{}
	for _, l := range lists {
		for _, s := range l {
			last[s.Key] = s.Level
		}
	}
	var settings []api.Setting
	for _, key := range slices.SortedFunc(maps.Keys(last), CompareKeys) {
		settings = append(settings, api.Setting{Key: key, Level: last[key]})
	}
	return settings
}

// Record returns presets in which the one with a number has a title and settings.
func Record(r api.Rig, presets []api.Preset, number int, title string, l []api.Setting, merge bool) ([]api.Preset, api.Fault) {
	k, fault := keysFor(r, presets)
	if fault != api.OK {
		return nil, fault
	}
	switch {
	case !within(number, api.MaxPreset):
		return nil, api.ErrRange
	case !canTitle(title):
		return nil, api.ErrForm
	case len(l) > maxGiven:
		return nil, api.ErrLarge
	}
	for _, s := range l {
		if fault := k.checkSetting(s); fault != api.OK {
			return nil, fault
		}
	}
	p := api.Preset{Number: number, Title: title, Settings: sorted(l)}
	i, there := slices.BinarySearchFunc(presets, number, func(p api.Preset, number int) int { return p.Number - number })
	if there && merge {
		p = merged(presets[i], p)
	}
	if len(p.Settings) > api.MaxSettings || !there && len(presets) == api.MaxPresets {
		return nil, api.ErrLarge
	}
	recorded := clone(presets)
	if there {
		recorded[i] = p
	} else {
		recorded = slices.Insert(recorded, i, p)
	}
	return recorded, api.OK
}

// merged returns a preset with what another one adds to it.
func merged(p, other api.Preset) api.Preset {
	return api.Preset{Number: p.Number, Title: cmp.Or(other.Title, p.Title), Settings: sorted(p.Settings, other.Settings)}
}

// clone returns presets that share no memory with these.
func clone(l []api.Preset) []api.Preset {
	all := make([]api.Preset, len(l))
	for i, p := range l {
		p.Settings = append([]api.Setting(nil), p.Settings...)
		all[i] = p
	}
	return all
}

// Level returns the level that a value is for a key.
func Level(presets []api.Preset, k api.Key, v api.Value) (int, api.Fault) {
	switch {
	case v.Level != 0 && v.Preset != 0:
		return 0, api.ErrForm
	case !level.IsLevel(v.Level):
		return 0, api.ErrRange
	case v.Preset == 0:
		return v.Level, api.OK
	}
	p, there := find(presets, v.Preset)
	if !there {
		return 0, api.ErrNone
	}
	for _, s := range p.Settings {
		if s.Key == k {
			return s.Level, api.OK
		}
	}
	return 0, api.ErrNone
}

// find returns the first preset with a number.
func find(presets []api.Preset, number int) (api.Preset, bool) {
	for _, p := range presets {
		if p.Number == number {
			return p, true
		}
	}
	return api.Preset{}, false
}
