package stamp_test

import (
	"reflect"
	"testing"

	"cyclorama/api"
	"cyclorama/cue"
)

// same says what two values are, if they differ (an empty list is the same as nil).
func same(t *testing.T, name string, got, want any) {
	t.Helper()
	if !reflect.DeepEqual(copied(got, settled), copied(want, settled)) {
		t.Errorf("%s: got %+v, want %+v", name, got, want)
	}
}

// results makes one value of the results of a call.
func results(l ...any) []any { return l }

// copied returns a copy of a value in which list makes the slices.
func copied[T any](v T, list func(s reflect.Value) reflect.Value) T {
	return copyOf(reflect.ValueOf(v), list).Interface().(T)
}

func copyOf(v reflect.Value, list func(s reflect.Value) reflect.Value) reflect.Value {
	to := reflect.New(v.Type()).Elem()
	switch v.Kind() {
	case reflect.Struct:
		for i := range v.NumField() {
			to.Field(i).Set(copyOf(v.Field(i), list))
		}
	case reflect.Slice:
		to.Set(list(v))
		for i := range to.Len() {
			to.Index(i).Set(copyOf(v.Slice(0, to.Len()).Index(i), list))
		}
	case reflect.Interface:
		to.Set(copyOf(v.Elem(), list))
	default:
		to.Set(v)
	}
	return to
}

// settled makes slices that are nil if they are empty.
func settled(s reflect.Value) reflect.Value {
	if s.Len() == 0 {
		return reflect.Zero(s.Type())
	}
	return reflect.MakeSlice(s.Type(), s.Len(), s.Len())
}

// roomy makes slices that have room for more, which nobody may touch.
func roomy(s reflect.Value) reflect.Value { return reflect.MakeSlice(s.Type(), s.Len(), s.Len()+3) }

// whole makes slices that are as long as the room of others.
func whole(s reflect.Value) reflect.Value { return reflect.MakeSlice(s.Type(), s.Cap(), s.Cap()) }

type stretch struct{ from, to uintptr }

// memory returns what slices of a value take, with their room for more.
func memory(v reflect.Value) []stretch {
	var l []stretch
	switch v.Kind() {
	case reflect.Struct:
		for i := range v.NumField() {
			l = append(l, memory(v.Field(i))...)
		}
	case reflect.Slice:
		if v.Cap() > 0 {
			from := v.Pointer()
			l = append(l, stretch{from, from + uintptr(v.Cap())*v.Type().Elem().Size()})
		}
		for i := range v.Len() {
			l = append(l, memory(v.Index(i))...)
		}
	}
	return l
}

// apart checks that no two slices of values share memory.
func apart(t *testing.T, name string, values ...any) {
	t.Helper()
	var l []stretch
	for _, v := range values {
		l = append(l, memory(reflect.ValueOf(v))...)
	}
	for i, a := range l {
		for _, b := range l[:i] {
			if a.from < b.to && b.from < a.to {
				t.Fatalf("%s: memory is shared", name)
			}
		}
	}
}

// rates are all rates.
var rates = []int{api.Rate24, api.Rate25, api.Rate30, api.RateDrop}

// noRates are numbers that are none.
var noRates = []int{0, 1, 23, 26, 28, 31, 60, 2997, -24, -29}

// at is a stamp.
func at(hours, minutes, seconds, frames int) api.Stamp {
	return api.Stamp{Hours: hours, Minutes: minutes, Seconds: seconds, Frames: frames}
}

// stage is a rig with an intensity and another parameter.
func stage() api.Rig {
	return api.Rig{
		Library: []api.Profile{{Name: "spot", Size: 2, Params: []api.Param{
			{Name: "dim", Group: api.Intensity, At: 1},
			{Name: "pan", Group: api.Position, At: 2, Default: 500},
		}}},
		Units: []api.Unit{
			{Number: 1, Profile: "spot", Universe: 1, Address: 1},
			{Number: 2, Profile: "spot", Universe: 1, Address: 3},
		},
	}
}

// three is a list of three cues.
const three = "cue 1 up 1\n  1.dim full\ncue 2.5 down 1\n  1.dim out\ncue 3 up 1\n  1.dim 50%\n"

// setup is one of the stage in which each text of a list is played by a playback with its number.
func setup(t *testing.T, texts ...string) api.Setup {
	t.Helper()
	s := api.Setup{Rig: stage(), Presets: []api.Preset{{Number: 4, Settings: []api.Setting{{Key: api.Key{Unit: 1, Param: "dim"}, Level: 30000}}}}}
	for i, text := range texts {
		l, line, fault := cue.Read(s.Rig, s.Presets, text)
		if fault != api.OK {
			t.Fatalf("%q: the fault %d in line %d", text, fault, line)
		}
		s.Lists = append(s.Lists, api.List{Number: i + 1, Cues: l})
		s.Playbacks = append(s.Playbacks, api.Playback{Number: i + 1, List: i + 1})
	}
	return s
}

// The actions, at no time.

func goes(playback int) api.Action { return api.Action{Kind: api.ActGo, Playback: playback} }

func back(playback int) api.Action { return api.Action{Kind: api.ActBack, Playback: playback} }

func jump(playback, number int) api.Action {
	return api.Action{Kind: api.ActJump, Playback: playback, Cue: number}
}

func pause(playback int) api.Action { return api.Action{Kind: api.ActPause, Playback: playback} }

func resume(playback int) api.Action { return api.Action{Kind: api.ActResume, Playback: playback} }

func release(playback, within int) api.Action {
	return api.Action{Kind: api.ActRelease, Playback: playback, Level: within}
}

func fader(playback, n int) api.Action {
	return api.Action{Kind: api.ActFader, Playback: playback, Level: n}
}

func grand(n int) api.Action { return api.Action{Kind: api.ActGrand, Level: n} }

func black(n int) api.Action { return api.Action{Kind: api.ActBlack, Level: n} }

// timed is an action at a time.
func timed(time int, a api.Action) api.Action {
	a.Time = time
	return a
}

// event is an action at a frame.
func event(at int, a api.Action) api.Event { return api.Event{At: at, Action: a} }
