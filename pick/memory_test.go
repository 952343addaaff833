package pick_test

import (
	"reflect"
	"testing"

	"cyclorama/api"
	"cyclorama/pick"
)

// arguments are what the functions of the package are called with.
type arguments struct {
	Rig      api.Rig
	Groups   []api.Group
	Presets  []api.Preset
	Pick     api.Pick
	Fan      api.Fan
	Units    []int
	Settings []api.Setting
}

// TestMemory calls all functions with arguments that have room for more, and looks whether they stay as they are, and share no memory with results.
func TestMemory(t *testing.T) {
	presets := somePresets()
	presets[0].Settings = []api.Setting{}
	a := roomy(arguments{
		Rig:      pars(1, 2, 3, 4, 5, 6, 9),
		Groups:   someGroups(),
		Presets:  presets,
		Pick:     parsed(t, "back (group 1 + preset 5 + 1) - odd group 2"),
		Fan:      fan(1, 2, 0, 50, 100),
		Units:    []int{9, 2, 3, 1},
		Settings: []api.Setting{setting(3, "pan", 1), setting(2, "dim", 2), setting(3, "pan", 3)},
	})
	before := whole(a)
	// check runs a call, which returns all its results, twice.
	check := func(name string, call func() []any) {
		t.Helper()
		first := call()
		same(t, name+": the fault", first[len(first)-1], api.OK)
		second := call()
		same(t, name+": the second result", list(second), list(first))
		apart(t, name, append(append(first, second...), a)...)
		if !reflect.DeepEqual(whole(a), before) {
			t.Errorf("%s: an argument was changed", name)
		}
	}
	check("Check", func() []any { return results(pick.Check(a.Pick)) })
	check("Print", func() []any { return results(pick.Print(a.Pick)) })
	check("Parse", func() []any { return results(pick.Parse("1 + 2 + 3 - odd (4 thru 6 - 5) + 7 + 8 + 9")) })
	check("CheckGroups", func() []any { return results(pick.CheckGroups(a.Groups)) })
	check("CheckPresets", func() []any { return results(pick.CheckPresets(a.Rig, a.Presets)) })
	for _, text := range []string{"1 thru 9", "9 thru 1", "group 1", "group 5", "preset 5", "back group 1", "odd group 1", "group 1 - group 5", "group 1 + group 1"} {
		p := parsed(t, text)
		check("Units of "+text, func() []any { return results(pick.Units(a.Rig, a.Groups, a.Presets, p)) })
	}
	check("Units", func() []any { return results(pick.Units(a.Rig, a.Groups, a.Presets, a.Pick)) })
	check("Uses", func() []any { return results(pick.Uses(a.Groups, 1)) })
	check("CheckFan", func() []any { return results(pick.CheckFan(a.Fan)) })
	check("Levels", func() []any { return results(pick.Levels(a.Fan, 7)) })
	check("Spread", func() []any { return results(pick.Spread(a.Rig, a.Units, "dim", a.Fan)) })
	check("Sorted", func() []any { return results(pick.Sorted(a.Settings)) })
	for _, number := range []int{1, 3, 4, 5, 6} {
		for _, merge := range []bool{false, true} {
			check("Record", func() []any { return results(pick.Record(a.Rig, a.Presets, number, "A", a.Settings, merge)) })
			check("Record of none", func() []any { return results(pick.Record(a.Rig, a.Presets, number, "", nil, merge)) })
		}
	}
	check("Level", func() []any {
		return results(pick.Level(a.Presets, a.Presets[1].Settings[0].Key, api.Value{Preset: 5}))
	})
}
