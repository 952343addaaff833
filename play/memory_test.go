package play_test

import (
	"reflect"
	"testing"

	"cyclorama/api"
	"cyclorama/play"
)

// wipe overwrites all that a value consists of, with the room of its slices.
func wipe(v reflect.Value) {
	switch v.Kind() {
	case reflect.Struct:
		for i := range v.NumField() {
			wipe(v.Field(i))
		}
	case reflect.Slice:
		v = v.Slice(0, v.Cap())
		for i := range v.Len() {
			wipe(v.Index(i))
		}
	case reflect.Int:
		v.SetInt(7)
	case reflect.String:
		v.SetString("x")
	}
}

// TestMemory calls all functions with arguments that have room for more, and looks whether they stay as they are, and share no memory with results, which are wiped: the desk does not change by this.
func TestMemory(t *testing.T) {
	const list = "cue 1 up 1 other 1 curve table 0:0 500:1 1000:1000\n  1.dim full\n  1.pan preset 1\n  3.dim 10%\ncue 2 down 1 follow 0.1 curve table 0:0 500:7 1000:1000\n  1.dim release\n  1.pan full\ncue 3\n  10.dim full\n"
	type arguments struct {
		Setup   api.Setup
		Actions []api.Action
	}
	a := copied(arguments{setup(t, list, list), []api.Action{goes(0, 1), goes(50, 2), goes(60, 1), fader(60, 1, 5)}}, roomy)
	before := copied(a, whole)
	d, fault := play.New(a.Setup)
	same(t, "CheckSetup and New", results(play.CheckSetup(a.Setup), fault), results(api.OK, api.OK))
	for _, one := range a.Actions {
		same(t, "Do", d.Do(one), api.OK)
	}
	replayed, i, fault := play.Replay(a.Setup, a.Actions)
	same(t, "Replay", results(i, fault), results(0, api.OK))
	if !reflect.DeepEqual(copied(a, whole), before) {
		t.Error("an argument was changed")
	}
	ask := func(d *play.Desk) []any {
		l := results(d.Actions(), d.Actions())
		for _, time := range []int{60, 100, 200} {
			for _, p := range []int{1, 2} {
				l = append(l, results(d.Standing(p, time))...)
			}
			l = append(l, results(d.Levels(time))...)
		}
		return l
	}
	first := ask(d)
	want := copied(first, settled)
	second, third := ask(d), ask(replayed)
	same(t, "what a desk says again", second, first)
	same(t, "what another desk says", third, first)
	all := results(a)
	for _, l := range [][]any{first, second, third} {
		all = append(all, l...)
	}
	apart(t, "the results", all...)
	for _, v := range all {
		p := reflect.New(reflect.TypeOf(v))
		p.Elem().Set(reflect.ValueOf(v))
		wipe(p.Elem())
	}
	same(t, "what a desk says behind that", ask(d), want)
	same(t, "what another desk says behind that", ask(replayed), want)
}

// TestApart does other things with a desk than with one that was the same.
func TestApart(t *testing.T) {
	s := setup(t, three)
	d := replay(t, s, goes(0, 1))
	l := d.Actions()
	other := replay(t, s, l...)
	before := look(d, 300)
	same(t, "Do", results(other.Do(goes(1, 1)), other.Do(release(2, 1, 5)), other.Do(black(3, 1))), results(api.OK, api.OK, api.OK))
	same(t, "the desk", look(d, 300), before)
	same(t, "the actions of earlier", l, []api.Action{goes(0, 1)})
}
