package cue_test

import (
	"fmt"
	"reflect"
	"testing"

	"cyclorama/api"
	"cyclorama/cue"
)

// same says what two values are, if they differ (an empty list is the same as nil).
func same(t *testing.T, name string, got, want any) {
	t.Helper()
	if !reflect.DeepEqual(copied(got, settled), copied(want, settled)) {
		t.Errorf("%s: got %+v, want %+v", name, got, want)
	}
}

// results makes one value of the results of a call.
func results(l ...any) []any { return l }

// none is the results of a call that returns a list and has a fault.
func none(fault api.Fault) []any { return results([]api.Cue(nil), fault) }

// copied returns a copy of a value in which list makes the slices.
func copied[T any](v T, list func(s reflect.Value) reflect.Value) T {
	return copyOf(reflect.ValueOf(v), list).Interface().(T)
}

func copyOf(v reflect.Value, list func(s reflect.Value) reflect.Value) reflect.Value {
	to := reflect.New(v.Type()).Elem()
	switch v.Kind() {
	case reflect.Struct:
		for i := range v.NumField() {
			to.Field(i).Set(copyOf(v.Field(i), list))
		}
	case reflect.Slice:
		to.Set(list(v))
		for i := range to.Len() {
			to.Index(i).Set(copyOf(v.Slice(0, to.Len()).Index(i), list))
		}
	case reflect.Interface:
		to.Set(copyOf(v.Elem(), list))
	default:
		to.Set(v)
	}
	return to
}

// settled makes slices that are nil if they are empty.
func settled(s reflect.Value) reflect.Value {
	if s.Len() == 0 {
		return reflect.Zero(s.Type())
	}
	return reflect.MakeSlice(s.Type(), s.Len(), s.Len())
}

// roomy makes slices that have room for more, which nobody may touch.
func roomy(s reflect.Value) reflect.Value { return reflect.MakeSlice(s.Type(), s.Len(), s.Len()+3) }

// whole makes slices that are as long as the room of others.
func whole(s reflect.Value) reflect.Value { return reflect.MakeSlice(s.Type(), s.Cap(), s.Cap()) }

type stretch struct{ from, to uintptr }

// memory returns what slices of a value take, with their room for more.
func memory(v reflect.Value) []stretch {
	var l []stretch
	switch v.Kind() {
	case reflect.Struct:
		for i := range v.NumField() {
			l = append(l, memory(v.Field(i))...)
		}
	case reflect.Slice:
		if v.Cap() > 0 {
			from := v.Pointer()
			l = append(l, stretch{from, from + uintptr(v.Cap())*v.Type().Elem().Size()})
		}
		for i := range v.Len() {
			l = append(l, memory(v.Index(i))...)
		}
	}
	return l
}

// apart checks that no two slices of values share memory.
func apart(t *testing.T, name string, values ...any) {
	t.Helper()
	var l []stretch
	for _, v := range values {
		l = append(l, memory(reflect.ValueOf(v))...)
	}
	for i, a := range l {
		for _, b := range l[:i] {
			if a.from < b.to && b.from < a.to {
				t.Fatalf("%s: memory is shared", name)
			}
		}
	}
}

func param(name string, group, at, usual int) api.Param {
	return api.Param{Name: name, Group: group, At: at, Default: usual}
}

// stage is a rig with units of all sorts: with one parameter of the group Intensity (1 and 10), with two (2), with none (3), and with one that is lit by its Default (4). No parameters stand in the order of their names.
func stage() api.Rig {
	return api.Rig{
		Library: []api.Profile{
			{Name: "spot", Size: 3, Params: []api.Param{param("zoom", api.Beam, 1, 0), param("dim", api.Intensity, 2, 0), param("pan", api.Position, 3, 500)}},
			{Name: "twin", Size: 3, Params: []api.Param{param("tilt", api.Position, 1, 0), param("right", api.Intensity, 2, 0), param("left", api.Intensity, 3, 0)}},
			{Name: "haze", Size: 2, Params: []api.Param{param("fan", api.Beam, 1, 0), param("amount", api.Beam, 2, 0)}},
			{Name: "house", Size: 2, Params: []api.Param{param("red", api.Colouring, 1, 0), param("dim", api.Intensity, 2, api.Full)}},
		},
		Units: []api.Unit{
			{Number: 1, Profile: "spot", Universe: 1, Address: 1},
			{Number: 2, Profile: "twin", Universe: 1, Address: 11},
			{Number: 3, Profile: "haze", Universe: 1, Address: 21},
			{Number: 4, Profile: "house", Universe: 1, Address: 31},
			{Number: 10, Profile: "spot", Universe: 1, Address: 41},
		},
	}
}

func setting(unit int, param string, n int) api.Setting {
	return api.Setting{Key: api.Key{Unit: unit, Param: param}, Level: n}
}

// looks are presets of the stage: some levels, all out, and levels that are as the Default.
func looks() []api.Preset {
	return []api.Preset{
		{Number: 1, Title: "Some", Settings: []api.Setting{setting(1, "dim", 30000), setting(1, "pan", 7), setting(2, "tilt", 9), setting(10, "pan", 8)}},
		{Number: 2, Title: "Out", Settings: []api.Setting{setting(1, "dim", 0), setting(2, "left", 0), setting(2, "right", 0), setting(4, "dim", 0), setting(10, "dim", 0)}},
		{Number: 7, Settings: []api.Setting{setting(1, "pan", 500), setting(3, "amount", 0), setting(10, "dim", api.Full)}},
	}
}

// read returns the list of a text for the stage.
func read(t *testing.T, text string) []api.Cue {
	t.Helper()
	l, line, fault := cue.Read(stage(), looks(), text)
	if fault != api.OK {
		t.Fatalf("%q: the fault %d in line %d", text, fault, line)
	}
	return l
}

// text is the text of a list of the stage that a call returned, or its fault.
func text(l []api.Cue, fault api.Fault) string {
	if fault != api.OK {
		return fmt.Sprint("fault ", int(fault), l)
	}
	s, fault := cue.Text(stage(), looks(), l)
	if fault != api.OK {
		return fmt.Sprint("fault of the text ", int(fault), l)
	}
	return s
}

// plain is a cue without anything.
func plain(number int, moves ...api.Move) api.Cue {
	return api.Cue{Number: number, Curve: api.Curve{Kind: api.CurveLinear}, Follow: -1, Moves: moves}
}

// cues are n of them, with the numbers from 1 on.
func cues(n int) []api.Cue {
	var l []api.Cue
	for i := range n {
		l = append(l, plain(i+1))
	}
	return l
}

// to is a move to a level.
func to(unit int, param string, n int) api.Move {
	return api.Move{Key: api.Key{Unit: unit, Param: param}, Value: api.Value{Level: n}}
}

// steps are moves of n keys, from key number i on (from 0 on). No rig has them.
func steps(i, n int) []api.Move {
	var l []api.Move
	for ; n > 0; n-- {
		l = append(l, to(1+i/100, fmt.Sprint("p", 100+i%100), 5))
		i++
	}
	return l
}

// changed returns a list after a change of it.
func changed(l []api.Cue, change func(l []api.Cue)) []api.Cue {
	change(l)
	return l
}
