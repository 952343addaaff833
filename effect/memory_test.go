package effect_test

import (
	"reflect"
	"testing"

	"cyclorama/api"
	"cyclorama/effect"
)

// TestMemory calls all functions with arguments that have room for more, and looks whether they stay as they are, and share no memory with results (G2).
func TestMemory(t *testing.T) {
	type arguments struct {
		Rig     api.Rig
		Effect  api.Effect
		Running []api.Running
		Base    []api.Setting
	}
	// check runs a call, which returns all its results.
	check := func(name string, call func(a arguments) []any) {
		t.Helper()
		x := with(run(), func(x *api.Running) { x.Effect, x.Rates = steps(), rates(1100, 50, 1200, 60, 1300, 70) })
		a := copied(arguments{stage(), steps(), []api.Running{x, run()}, []api.Setting{setting(2, "pan", 5), setting(1, "dim", 7)}}, roomy)
		before := copied(a, whole)
		l := call(a)
		same(t, name+": the fault", l[len(l)-1], api.OK)
		if !reflect.DeepEqual(copied(a, whole), before) {
			t.Errorf("%s: an argument was changed", name)
		}
		again := call(a)
		apart(t, name, append(append(l, a), again...)...)
	}
	check("Check", func(a arguments) []any { return results(effect.Check(a.Effect)) })
	check("Text", func(a arguments) []any { return results(effect.Text(a.Effect)) })
	check("Read", func(a arguments) []any { return results(effect.Read("steps from out to full full:100:0 out:50:50")) })
	check("Way", func(a arguments) []any { return results(effect.Way(a.Effect, 1, 3, 5)) })
	check("CheckRunning", func(a arguments) []any { return results(effect.CheckRunning(a.Rig, a.Running[0])) })
	check("Clock", func(a arguments) []any { return results(effect.Clock(a.Running[0], 1250)) })
	check("Settings", func(a arguments) []any { return results(effect.Settings(a.Rig, a.Running[0], a.Base, 1250)) })
	check("Apply", func(a arguments) []any { return results(effect.Apply(a.Rig, a.Running, a.Base, 1250)) })
	check("Apply of nothing", func(a arguments) []any { return results(effect.Apply(a.Rig, nil, a.Base, 1250)) })
	check("Faster", func(a arguments) []any { return results(effect.Faster(a.Running[0], 1250, 7)) })
	check("Faster than all", func(a arguments) []any { return results(effect.Faster(a.Running[0], 1000, 7)) })
	check("Faster at last", func(a arguments) []any { return results(effect.Faster(a.Running[0], 5000, 7)) })
	check("Stop", func(a arguments) []any { return results(effect.Stop(a.Running[0], 1250, 7)) })
	check("Period", func(a arguments) []any { return results(effect.Period(a.Effect)) })
}
