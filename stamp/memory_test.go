package stamp_test

import (
	"reflect"
	"testing"

	"cyclorama/api"
	"cyclorama/stamp"
)

// wipe overwrites all that a value consists of, with the room of its slices.
func wipe(v reflect.Value) {
	switch v.Kind() {
	case reflect.Struct:
		for i := range v.NumField() {
			wipe(v.Field(i))
		}
	case reflect.Slice:
		v = v.Slice(0, v.Cap())
		for i := range v.Len() {
			wipe(v.Index(i))
		}
	case reflect.Int:
		v.SetInt(7)
	case reflect.String:
		v.SetString("x")
	}
}

// TestMemory calls all functions with arguments that have room for more, and looks whether they stay as they are, and share no memory with results, which are wiped: a desk does not change by this.
func TestMemory(t *testing.T) {
	type arguments struct {
		Setup  api.Setup
		Events []api.Event
	}
	a := copied(arguments{setup(t, "cue 1\n", three), all()}, roomy)
	before := copied(a, whole)
	s, l := a.Setup, a.Events
	const rate = api.Rate25
	ask := func() []any {
		due, dueFault := stamp.Due(s, rate, l, 10, 110)
		read, _, readFault := stamp.ReadEvents(s, rate, allText)
		reached, reachFault := stamp.Reach(s, rate, l, 0, 140)
		d, runFault := stamp.Run(s, rate, l, 0, 140, 0)
		same(t, "the faults", results(dueFault, readFault, reachFault, runFault, stamp.CheckEvents(s, rate, l)), results(api.OK, api.OK, api.OK, api.OK, api.OK))
		same(t, "EventText", results(stamp.EventText(s, rate, l)), results(allText, api.OK))
		return results(due, read, reached, d.Actions())
	}
	first, second := ask(), ask()
	same(t, "what is said again", second, first)
	d, _ := stamp.Run(s, rate, l, 0, 140, 0)
	if !reflect.DeepEqual(copied(a, whole), before) {
		t.Error("an argument was changed")
	}
	actions, stand := d.Actions(), results(d.Standing(2, api.MaxTime))
	levels := results(d.Levels(api.MaxTime))
	everything := append(append(results(a), first...), second...)
	apart(t, "the results", everything...)
	for _, v := range everything {
		p := reflect.New(reflect.TypeOf(v))
		p.Elem().Set(reflect.ValueOf(v))
		wipe(p.Elem())
	}
	same(t, "the desk", results(d.Actions(), results(d.Standing(2, api.MaxTime)), results(d.Levels(api.MaxTime))), results(actions, stand, levels))
}
