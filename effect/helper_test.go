package effect_test

import (
	"reflect"
	"strconv"
	"testing"

	"cyclorama/api"
)

// same says what two values are, if they differ (an empty list is the same as nil).
func same(t *testing.T, name string, got, want any) {
	t.Helper()
	if !reflect.DeepEqual(copied(got, settled), copied(want, settled)) {
		t.Errorf("%s: got %+v, want %+v", name, got, want)
	}
}

// results makes one value of the results of a call.
func results(l ...any) []any { return l }

// copied returns a copy of a value in which list makes the slices.
func copied[T any](v T, list func(s reflect.Value) reflect.Value) T {
	return copyOf(reflect.ValueOf(v), list).Interface().(T)
}

func copyOf(v reflect.Value, list func(s reflect.Value) reflect.Value) reflect.Value {
	to := reflect.New(v.Type()).Elem()
	switch v.Kind() {
	case reflect.Struct:
		for i := range v.NumField() {
			to.Field(i).Set(copyOf(v.Field(i), list))
		}
	case reflect.Slice:
		to.Set(list(v))
		for i := range to.Len() {
			to.Index(i).Set(copyOf(v.Slice(0, to.Len()).Index(i), list))
		}
	case reflect.Interface:
		to.Set(copyOf(v.Elem(), list))
	default:
		to.Set(v)
	}
	return to
}

// settled makes slices that are nil if they are empty.
func settled(s reflect.Value) reflect.Value {
	if s.Len() == 0 {
		return reflect.Zero(s.Type())
	}
	return reflect.MakeSlice(s.Type(), s.Len(), s.Len())
}

// roomy makes slices that have room for more, which nobody may touch.
func roomy(s reflect.Value) reflect.Value { return reflect.MakeSlice(s.Type(), s.Len(), s.Len()+3) }

// whole makes slices that are as long as the room of others.
func whole(s reflect.Value) reflect.Value { return reflect.MakeSlice(s.Type(), s.Cap(), s.Cap()) }

type stretch struct{ from, to uintptr }

// memory returns what slices of a value take, with their room for more.
func memory(v reflect.Value) []stretch {
	var l []stretch
	switch v.Kind() {
	case reflect.Struct:
		for i := range v.NumField() {
			l = append(l, memory(v.Field(i))...)
		}
	case reflect.Slice:
		if v.Cap() > 0 {
			from := v.Pointer()
			l = append(l, stretch{from, from + uintptr(v.Cap())*v.Type().Elem().Size()})
		}
		for i := range v.Len() {
			l = append(l, memory(v.Index(i))...)
		}
	}
	return l
}

// apart checks that no two slices of values share memory.
func apart(t *testing.T, name string, values ...any) {
	t.Helper()
	var l []stretch
	for _, v := range values {
		l = append(l, memory(reflect.ValueOf(v))...)
	}
	for i, a := range l {
		for _, b := range l[:i] {
			if a.from < b.to && b.from < a.to {
				t.Fatalf("%s: memory is shared", name)
			}
		}
	}
}

// none is the results of a call that returns settings, or a running effect, and has a fault.
func none[T any](fault api.Fault) []any {
	var empty T
	return results(empty, fault)
}

// stage is a rig whose parameters have usual levels of all sorts.
func stage() api.Rig {
	return api.Rig{
		Library: []api.Profile{{Name: "spot", Size: 3, Params: []api.Param{
			{Name: "pan", Group: api.Position, At: 1, Default: 500},
			{Name: "dim", Group: api.Intensity, At: 2},
			{Name: "zoom", Group: api.Beam, At: 3, Default: api.Full, Snap: true},
		}}},
		Units: []api.Unit{
			{Number: 1, Profile: "spot", Universe: 1, Address: 1},
			{Number: 2, Profile: "spot", Universe: 1, Address: 4},
			{Number: 30, Profile: "spot", Universe: 1, Address: 7},
		},
	}
}

// crowd is a rig with n parameters, which are 40 of each unit.
func crowd(n int) (api.Rig, []api.Key) {
	p := api.Profile{Name: "many", Size: 40}
	for i := range 40 {
		p.Params = append(p.Params, api.Param{Name: "p" + strconv.Itoa(i), Group: api.Intensity, At: i + 1})
	}
	r := api.Rig{Library: []api.Profile{p}}
	var keys []api.Key
	for i := range n {
		number := 1 + i/40
		if i%40 == 0 {
			r.Units = append(r.Units, api.Unit{Number: number, Profile: "many", Universe: number, Address: 1})
		}
		keys = append(keys, api.Key{Unit: number, Param: "p" + strconv.Itoa(i%40)})
	}
	return r, keys
}

func key(unit int, param string) api.Key { return api.Key{Unit: unit, Param: param} }

func setting(unit int, param string, n int) api.Setting {
	return api.Setting{Key: key(unit, param), Level: n}
}

// The effects of most tests: a triangle, a square and two steps.

func triangle() api.Effect {
	return api.Effect{Form: api.FormTriangle, High: api.Full, Cycle: 1000}
}

func square() api.Effect {
	return api.Effect{Form: api.FormSquare, High: api.Full, Cycle: 1000, Width: 250}
}

func steps() api.Effect {
	return api.Effect{Form: api.FormSteps, High: api.Full, Steps: []api.EffectStep{{Level: api.Full, Hold: 100}, {Level: 0, Hold: 50, Fade: 50}}}
}

// with returns an effect, or a running one, in which something was changed.
func with[T any](v T, change func(v *T)) T {
	change(&v)
	return v
}

// run is a triangle on the intensities of the stage.
func run() api.Running {
	return api.Running{Effect: triangle(), Keys: []api.Key{key(1, "dim"), key(2, "dim"), key(30, "dim")}, Start: 1000, End: -1}
}
