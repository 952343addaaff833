package play_test

import (
	"fmt"
	"reflect"
	"testing"

	"cyclorama/api"
	"cyclorama/cue"
	"cyclorama/play"
)

// same says what two values are, if they differ (an empty list is the same as nil).
func same(t *testing.T, name string, got, want any) {
	t.Helper()
	if !reflect.DeepEqual(copied(got, settled), copied(want, settled)) {
		t.Errorf("%s: got %+v, want %+v", name, got, want)
	}
}

// results makes one value of the results of a call.
func results(l ...any) []any { return l }

// copied returns a copy of a value in which list makes the slices.
func copied[T any](v T, list func(s reflect.Value) reflect.Value) T {
	return copyOf(reflect.ValueOf(v), list).Interface().(T)
}

func copyOf(v reflect.Value, list func(s reflect.Value) reflect.Value) reflect.Value {
	to := reflect.New(v.Type()).Elem()
	switch v.Kind() {
	case reflect.Struct:
		for i := range v.NumField() {
			to.Field(i).Set(copyOf(v.Field(i), list))
		}
	case reflect.Slice:
		to.Set(list(v))
		for i := range to.Len() {
			to.Index(i).Set(copyOf(v.Slice(0, to.Len()).Index(i), list))
		}
	case reflect.Interface:
		to.Set(copyOf(v.Elem(), list))
	default:
		to.Set(v)
	}
	return to
}

// settled makes slices that are nil if they are empty.
func settled(s reflect.Value) reflect.Value {
	if s.Len() == 0 {
		return reflect.Zero(s.Type())
	}
	return reflect.MakeSlice(s.Type(), s.Len(), s.Len())
}

// roomy makes slices that have room for more, which nobody may touch.
func roomy(s reflect.Value) reflect.Value { return reflect.MakeSlice(s.Type(), s.Len(), s.Len()+3) }

// whole makes slices that are as long as the room of others.
func whole(s reflect.Value) reflect.Value { return reflect.MakeSlice(s.Type(), s.Cap(), s.Cap()) }

type stretch struct{ from, to uintptr }

// memory returns what slices of a value take, with their room for more.
func memory(v reflect.Value) []stretch {
	var l []stretch
	switch v.Kind() {
	case reflect.Struct:
		for i := range v.NumField() {
			l = append(l, memory(v.Field(i))...)
		}
	case reflect.Slice:
		if v.Cap() > 0 {
			from := v.Pointer()
			l = append(l, stretch{from, from + uintptr(v.Cap())*v.Type().Elem().Size()})
		}
		for i := range v.Len() {
			l = append(l, memory(v.Index(i))...)
		}
	}
	return l
}

// apart checks that no two slices of values share memory.
func apart(t *testing.T, name string, values ...any) {
	t.Helper()
	var l []stretch
	for _, v := range values {
		l = append(l, memory(reflect.ValueOf(v))...)
	}
	for i, a := range l {
		for _, b := range l[:i] {
			if a.from < b.to && b.from < a.to {
				t.Fatalf("%s: memory is shared", name)
			}
		}
	}
}

func param(name string, group, at, usual int, snap bool) api.Param {
	return api.Param{Name: name, Group: group, At: at, Default: usual, Snap: snap}
}

// stage is a rig of units with parameters that fade and that do not, of which none stand in the order of their names, and with an intensity that is lit by its Default (unit 3).
func stage() api.Rig {
	return api.Rig{
		Library: []api.Profile{
			{Name: "spot", Size: 4, Params: []api.Param{param("pan", api.Position, 1, 500, false), param("dim", api.Intensity, 2, 0, false), param("gobo", api.Beam, 3, 7, true), param("flash", api.Intensity, 4, 0, true)}},
			{Name: "house", Size: 2, Params: []api.Param{param("dim", api.Intensity, 1, 40000, false), param("colour", api.Colouring, 2, 0, false)}},
		},
		Units: []api.Unit{
			{Number: 1, Profile: "spot", Universe: 1, Address: 1},
			{Number: 3, Profile: "house", Universe: 1, Address: 21},
			{Number: 10, Profile: "spot", Universe: 1, Address: 11},
		},
	}
}

func key(unit int, param string) api.Key { return api.Key{Unit: unit, Param: param} }

var (
	dim   = key(1, "dim")
	pan   = key(1, "pan")
	gobo  = key(1, "gobo")
	flash = key(1, "flash")
	house = key(3, "dim")
)

// looks are presets of the stage.
func looks() []api.Preset {
	return []api.Preset{
		{Number: 1, Settings: []api.Setting{{Key: dim, Level: 30000}, {Key: pan, Level: 9}, {Key: house, Level: 0}}},
		{Number: 4, Title: "Far", Settings: []api.Setting{{Key: dim, Level: api.Full}, {Key: pan, Level: 1000}, {Key: key(10, "pan"), Level: 8}}},
	}
}

// setup is one of the stage in which each text of a list is played by a playback with its number.
func setup(t *testing.T, texts ...string) api.Setup {
	t.Helper()
	s := api.Setup{Rig: stage(), Presets: looks()}
	for i, text := range texts {
		l, line, fault := cue.Read(s.Rig, s.Presets, text)
		if fault != api.OK {
			t.Fatalf("%q: the fault %d in line %d", text, fault, line)
		}
		s.Lists = append(s.Lists, api.List{Number: i + 1, Cues: l})
		s.Playbacks = append(s.Playbacks, api.Playback{Number: i + 1, List: i + 1})
	}
	return s
}

// replay returns a desk with which actions were done.
func replay(t *testing.T, s api.Setup, l ...api.Action) *play.Desk {
	t.Helper()
	d, i, fault := play.Replay(s, l)
	if d == nil || fault != api.OK {
		t.Fatalf("Replay: the fault %d of action %d", fault, i)
	}
	return d
}

// The actions, each one at a time.

func goes(time, playback int) api.Action {
	return api.Action{Time: time, Kind: api.ActGo, Playback: playback}
}

func back(time, playback int) api.Action {
	return api.Action{Time: time, Kind: api.ActBack, Playback: playback}
}

func jump(time, playback, number int) api.Action {
	return api.Action{Time: time, Kind: api.ActJump, Playback: playback, Cue: number}
}

func pause(time, playback int) api.Action {
	return api.Action{Time: time, Kind: api.ActPause, Playback: playback}
}

func resume(time, playback int) api.Action {
	return api.Action{Time: time, Kind: api.ActResume, Playback: playback}
}

func release(time, playback, within int) api.Action {
	return api.Action{Time: time, Kind: api.ActRelease, Playback: playback, Level: within}
}

func fader(time, playback, n int) api.Action {
	return api.Action{Time: time, Kind: api.ActFader, Playback: playback, Level: n}
}

func grand(time, n int) api.Action { return api.Action{Time: time, Kind: api.ActGrand, Level: n} }

func black(time, n int) api.Action { return api.Action{Time: time, Kind: api.ActBlack, Level: n} }

// levels checks the level of a key at times: pairs of a time and a level.
func levels(t *testing.T, d *play.Desk, k api.Key, pairs ...int) {
	t.Helper()
	for i := 0; i+1 < len(pairs); i += 2 {
		same(t, fmt.Sprint("Level of ", k, " at ", pairs[i]), results(d.Level(k, pairs[i])), results(pairs[i+1], api.OK))
	}
}

// stands checks where a playback stands at a time: the cue, the time of the follow, and its runs.
func stands(t *testing.T, d *play.Desk, playback, time, number, follow int, runs ...api.Run) {
	t.Helper()
	s, fault := d.Standing(playback, time)
	same(t, fmt.Sprint("Standing of ", playback, " at ", time), results(s.Playback, s.Cue, s.Follow, s.Runs, fault), results(playback, number, follow, runs, api.OK))
}

func curve(kind int) api.Curve { return api.Curve{Kind: kind} }

// run is a run with a linear fade.
func run(k api.Key, from, to, start, delay, time, claim int) api.Run {
	return api.Run{Key: k, Fade: api.Fade{From: from, To: to, Start: start, Delay: delay, Time: time, Curve: curve(api.CurveLinear)}, Claim: claim}
}

// ending is a run that is ending, with a linear fade.
func ending(k api.Key, from, start, delay, time, claim int) api.Run {
	r := run(k, from, 0, start, delay, time, claim)
	r.Ending = true
	return r
}
