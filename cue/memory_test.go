package cue_test

import (
	"reflect"
	"testing"

	"cyclorama/api"
	"cyclorama/cue"
)

// TestMemory calls all functions with arguments that have room for more, and looks whether they stay as they are, and share no memory with results.
func TestMemory(t *testing.T) {
	type arguments struct {
		Rig     api.Rig
		Presets []api.Preset
		List    []api.Cue
		Moves   []api.Move
	}
	const table = " curve table 0:0 500:1 1000:1000|"
	a := copied(arguments{
		Rig:     stage(),
		Presets: looks(),
		List:    read(t, lines("cue 1"+table+"  1.dim full|  1.pan preset 1|cue 2"+table+"  1.dim out|  1.pan #2|cue 3 block|  1.pan #2|cue 4|  1.dim #7|  1.zoom #8 in 1|cue 5 block"+table)),
		Moves:   []api.Move{to(1, "dim", 3), to(1, "zoom", 3), to(2, "tilt", 5)},
	}, roomy)
	before := copied(a, whole)
	// check runs a call, which returns all its results, twice.
	check := func(name string, call func() []any) {
		t.Helper()
		first := call()
		same(t, name+": the fault", first[len(first)-1], api.OK)
		second := call()
		same(t, name+": the second result", second, first)
		apart(t, name, append(append(first, second...), a)...)
		if !reflect.DeepEqual(copied(a, whole), before) {
			t.Errorf("%s: an argument was changed", name)
		}
	}
	check("CheckList", func() []any { return results(cue.CheckList(a.Rig, a.Presets, a.List)) })
	check("Text", func() []any { return results(cue.Text(a.Rig, a.Presets, a.List)) })
	check("Read", func() []any {
		return results(cue.Read(a.Rig, a.Presets, lines("cue 1"+table+"  1.dim full|  1.pan preset 1|  1.zoom #1|cue 2|  1.dim full|")))
	})
	check("Clean", func() []any { return results(cue.Clean(a.List)) })
	check("Marks", func() []any { return results(cue.Marks(a.Rig, a.Presets, a.List)) })
	check("Marked", func() []any { return results(cue.Marked(a.Rig, a.Presets, a.List)) })
	for i, c := range a.List {
		n := c.Number
		check("State", func() []any { return results(cue.State(a.List, n)) })
		check("Levels", func() []any { return results(cue.Levels(a.Rig, a.Presets, a.List, n)) })
		check("Renumber", func() []any { return results(cue.Renumber(a.List, n, n+1)) })
		check("Block", func() []any { return results(cue.Block(a.List, n)) })
		check("Unblock", func() []any { return results(cue.Unblock(a.List, n)) })
		for _, way := range []int{only, track} {
			check("Record", func() []any { return results(cue.Record(a.List, n, a.Moves, way)) })
			check("Record of a new one", func() []any { return results(cue.Record(a.List, n-1, a.Moves, way)) })
			check("Record of none", func() []any { return results(cue.Record(a.List, n+1, nil, way)) })
			check("Delete", func() []any { return results(cue.Delete(a.List, n, way)) })
		}
		for j := range a.List {
			to := a.List[(i+j)%len(a.List)].Number + 7
			check("Copy", func() []any { return results(cue.Copy(a.List, n, to)) })
			check("Shift", func() []any { return results(cue.Shift(a.List, n, to)) })
		}
	}
}
