package pick_test

import (
	"fmt"
	"reflect"
	"strings"
	"testing"

	"cyclorama/api"
	"cyclorama/pick"
)

// same says what two results are, if they differ as they are printed (an empty list is the same as nil).
func same(t *testing.T, name string, got, want any) {
	t.Helper()
	if g, w := fmt.Sprintf("%+v", got), fmt.Sprintf("%+v", want); g != w {
		t.Errorf("%s: got %s, want %s", name, g, w)
	}
}

type list []any

// String has each value twice: in quotes it shows where texts end, but not which number it is, if that is no rune.
func (l list) String() string {
	var s []string
	for _, x := range l {
		s = append(s, fmt.Sprintf("%+v %+q", x, x))
	}
	return strings.Join(s, " ")
}

// results makes one value of the results of a call.
func results(l ...any) list { return l }

func units(from, to int) api.Pick { return api.Pick{Kind: api.PickUnits, From: from, To: to} }

func one(n int) api.Pick { return units(n, n) }

func group(n int) api.Pick { return api.Pick{Kind: api.PickGroup, From: n} }

func preset(n int) api.Pick { return api.Pick{Kind: api.PickPreset, From: n} }

// of is a selection of a kind without numbers of its own.
func of(kind int, args ...api.Pick) api.Pick { return api.Pick{Kind: kind, Args: args} }

func join(args ...api.Pick) api.Pick { return of(api.PickJoin, args...) }

func less(a, b api.Pick) api.Pick { return of(api.PickLess, a, b) }

func every(step, first int, arg api.Pick) api.Pick {
	return api.Pick{Kind: api.PickEvery, From: step, To: first, Args: []api.Pick{arg}}
}

// parsed returns the selection of a text that can be read.
func parsed(t *testing.T, text string) api.Pick {
	t.Helper()
	p, _, fault := pick.Parse(text)
	same(t, "the fault of "+text, fault, api.OK)
	return p
}

// deep is a selection with a number of levels.
func deep(levels int) api.Pick {
	p := one(1)
	for range levels - 1 {
		p = of(api.PickBack, p)
	}
	return p
}

// wide is a selection with a number of parts on two levels.
func wide(parts int) api.Pick {
	p := join()
	for i := range parts - 1 {
		p.Args = append(p.Args, one(i+1))
	}
	return p
}

func setting(unit int, param string, n int) api.Setting {
	return api.Setting{Key: api.Key{Unit: unit, Param: param}, Level: n}
}

// pars is a rig with units of two parameters.
func pars(numbers ...int) api.Rig {
	p := api.Profile{Name: "par", Size: 2, Params: []api.Param{
		{Name: "pan", Group: api.Position, At: 2},
		{Name: "dim", Group: api.Intensity, At: 1},
	}}
	r := api.Rig{Library: []api.Profile{p}}
	for i, number := range numbers {
		r.Units = append(r.Units, api.Unit{Number: number, Profile: "par", Universe: 1 + i/256, Address: 1 + 2*(i%256)})
	}
	return r
}

// upTo returns the numbers from 1 to n.
func upTo(n int) []int {
	var l []int
	for i := range n {
		l = append(l, i+1)
	}
	return l
}

// large is a rig with more keys than a preset can have settings, and a setting for each of them, in their order.
func large() (api.Rig, []api.Setting) {
	p := api.Profile{Name: "large", Size: 40}
	for i := range p.Size {
		p.Params = append(p.Params, api.Param{Name: fmt.Sprint("p", 10+i), Group: api.Beam, At: i + 1})
	}
	r := api.Rig{Library: []api.Profile{p}}
	var l []api.Setting
	for i := range 51 {
		r.Units = append(r.Units, api.Unit{Number: i + 1, Profile: "large", Universe: 1 + i/12, Address: 1 + 40*(i%12)})
		for _, param := range p.Params {
			l = append(l, setting(i+1, param.Name, i))
		}
	}
	return r, l
}

// roomy returns a copy of a value whose slices all have room for more, which nobody may touch.
func roomy[T any](v T) T {
	return copyOf(reflect.ValueOf(v), func(s reflect.Value) int { return s.Len() }).Interface().(T)
}

// whole returns a copy of a value in which slices are as long as their room.
func whole[T any](v T) T {
	return copyOf(reflect.ValueOf(v), func(s reflect.Value) int { return s.Cap() }).Interface().(T)
}

func copyOf(v reflect.Value, length func(s reflect.Value) int) reflect.Value {
	to := reflect.New(v.Type()).Elem()
	switch v.Kind() {
	case reflect.Struct:
		for i := range v.NumField() {
			to.Field(i).Set(copyOf(v.Field(i), length))
		}
	case reflect.Slice:
		n := length(v)
		to.Set(reflect.MakeSlice(v.Type(), n, n+3))
		for i := range n {
			to.Index(i).Set(copyOf(v.Slice(0, n).Index(i), length))
		}
	default:
		to.Set(v)
	}
	return to
}

type stretch struct{ from, to uintptr }

// memory returns what slices of a value take, with their room for more.
func memory(v reflect.Value) []stretch {
	var l []stretch
	switch v.Kind() {
	case reflect.Struct:
		for i := range v.NumField() {
			l = append(l, memory(v.Field(i))...)
		}
	case reflect.Slice:
		if v.Cap() > 0 {
			from := v.Pointer()
			l = append(l, stretch{from, from + uintptr(v.Cap())*v.Type().Elem().Size()})
		}
		for i := range v.Len() {
			l = append(l, memory(v.Index(i))...)
		}
	}
	return l
}

// apart checks that no two slices of values share memory.
func apart(t *testing.T, name string, values ...any) {
	t.Helper()
	var l []stretch
	for _, v := range values {
		l = append(l, memory(reflect.ValueOf(v))...)
	}
	for i, a := range l {
		for _, b := range l[:i] {
			if a.from < b.to && b.from < a.to {
				t.Fatalf("%s: memory is shared", name)
			}
		}
	}
}
