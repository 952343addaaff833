package pick_test

import (
	"fmt"
	"math"
	"testing"

	"cyclorama/api"
	"cyclorama/pick"
)

func fan(block, wings int, corners ...int) api.Fan {
	return api.Fan{Corners: corners, Block: block, Wings: wings}
}

func TestCheckFan(t *testing.T) {
	full := make([]int, api.MaxCorners)
	large := make([]int, api.MaxCorners+1)
	large[0] = -1
	for _, c := range []struct {
		f    api.Fan
		want api.Fault
	}{
		{fan(1, 1, 0), api.OK},
		{fan(api.MaxUnit, api.MaxWings, api.Full, 0), api.OK},
		{fan(1, 1, full...), api.OK},
		{fan(1, 1), api.ErrNone},
		{fan(0, 0), api.ErrNone},
		{api.Fan{Corners: []int{}}, api.ErrNone},
		{fan(0, 0, large...), api.ErrLarge},
		{fan(1, 1, large[1:]...), api.OK},
		{fan(1, 1, -1), api.ErrRange},
		{fan(1, 1, 0, api.Full+1), api.ErrRange},
		{fan(1, 1, 0, math.MinInt, 0), api.ErrRange},
		{fan(1, 1, math.MaxInt), api.ErrRange},
		{fan(0, 1, 0), api.ErrRange},
		{fan(-1, 1, 0), api.ErrRange},
		{fan(api.MaxUnit+1, 1, 0), api.ErrRange},
		{fan(math.MinInt, 1, 0), api.ErrRange},
		{fan(math.MaxInt, 1, 0), api.ErrRange},
		{fan(1, 0, 0), api.ErrRange},
		{fan(1, -1, 0), api.ErrRange},
		{fan(1, api.MaxWings+1, 0), api.ErrRange},
		{fan(1, math.MinInt, 0), api.ErrRange},
		{fan(1, math.MaxInt, 0), api.ErrRange},
	} {
		name := fmt.Sprintf("(%+v)", c.f)
		same(t, "CheckFan"+name, pick.CheckFan(c.f), c.want)
		if c.want == api.OK {
			continue
		}
		same(t, "Levels"+name, results(pick.Levels(c.f, 1)), results([]int{}, c.want))
		same(t, "Levels with a wrong number"+name, results(pick.Levels(c.f, -1)), results([]int{}, c.want))
		same(t, "Spread"+name, results(pick.Spread(pars(1), []int{1}, "dim", c.f)), results([]int{}, c.want))
	}
}

func TestLevels(t *testing.T) {
	for _, c := range []struct {
		f    api.Fan
		n    int
		want []int
	}{
		{fan(1, 2, 0, 100), 6, []int{0, 50, 100, 100, 50, 0}},
		{fan(1, 2, 0, 100), 5, []int{0, 50, 100, 100, 50}},
		{fan(1, 1, 0, 100), 0, []int{}},
		{fan(1, 3, 0, 100), 0, []int{}},
		{fan(1, 1, 0, 100), 1, []int{0}},
		{fan(1, 1, 0, 100), 2, []int{0, 100}},
		{fan(1, 1, 0, 100, 0), 5, []int{0, 50, 100, 50, 0}},
		{fan(1, 1, 7), 3, []int{7, 7, 7}},
		{fan(2, 1, 0, 100), 6, []int{0, 0, 50, 50, 100, 100}},
		{fan(2, 1, 0, 100), 5, []int{0, 0, 50, 50, 100}},
		{fan(2, 2, 0, 100), 8, []int{0, 0, 100, 100, 100, 100, 0, 0}},
		{fan(2, 2, 0, 100), 7, []int{0, 0, 100, 100, 100, 100, 0}},
		{fan(3, 2, 10, 20), 4, []int{10, 10, 10, 10}},
		{fan(1, 3, 0, 100), 6, []int{0, 100, 100, 0, 0, 100}},
		{fan(1, 3, 0, 100), 7, []int{0, 50, 100, 100, 50, 0, 0}},
		{fan(1, 50, 3, 100), 4, []int{3, 3, 3, 3}},
		{fan(9999, 50, 3, 100), 4, []int{3, 3, 3, 3}},
		{fan(1, 1, 0, 1), 3, []int{0, 1, 1}},
	} {
		same(t, fmt.Sprintf("Levels(%+v, %d)", c.f, c.n), results(pick.Levels(c.f, c.n)), results(c.want, api.OK))
	}
}

func TestLevelsOfNumbers(t *testing.T) {
	f := fan(1, 1, 0, 399)
	l, fault := pick.Levels(f, api.MaxUnits)
	same(t, "of all units", results(len(l), l[1], l[399], fault), results(400, 1, 399, api.OK))
	for _, n := range []int{-1, api.MaxUnits + 1, math.MinInt, math.MaxInt} {
		same(t, fmt.Sprint("of ", n, " units"), results(pick.Levels(f, n)), results([]int{}, api.ErrRange))
	}
}

func TestSpread(t *testing.T) {
	r, f := pars(1, 2, 3, 4), fan(1, 1, 10, 20)
	same(t, "two units", results(pick.Spread(r, []int{3, 1}, "dim", f)), results([]api.Setting{setting(3, "dim", 10), setting(1, "dim", 20)}, api.OK))
	same(t, "a fan with wings", results(pick.Spread(r, []int{4, 3, 2, 1}, "pan", fan(1, 2, 10, 20))),
		results([]api.Setting{setting(4, "pan", 10), setting(3, "pan", 20), setting(2, "pan", 20), setting(1, "pan", 10)}, api.OK))
	same(t, "no units", results(pick.Spread(r, nil, "zoom", f)), results([]api.Setting{}, api.OK))
	all := upTo(api.MaxUnits)
	l, fault := pick.Spread(pars(all...), all, "pan", f)
	same(t, "all units", results(len(l), l[399], fault), results(400, setting(400, "pan", 20), api.OK))
}

func TestSpreadInOrder(t *testing.T) {
	r, f, none := pars(1, 2), fan(1, 1, 10, 20), api.Fan{}
	badRig := pars(1, 2)
	badRig.Units[1].Universe = 0
	many := make([]int, api.MaxUnits+1)
	for name, c := range map[string]struct {
		r     api.Rig
		units []int
		param string
		f     api.Fan
		want  api.Fault
	}{
		"all are wrong":             {badRig, many, "zoom", none, api.ErrRange},
		"all but the rig":           {r, many, "zoom", none, api.ErrNone},
		"too many units":            {r, many, "zoom", f, api.ErrLarge},
		"no such parameter":         {r, []int{1}, "zoom", f, api.ErrNone},
		"an empty parameter":        {r, []int{1}, "", f, api.ErrNone},
		"no such unit":              {r, []int{1, 3}, "dim", f, api.ErrNone},
		"no unit 0":                 {r, []int{0}, "dim", f, api.ErrNone},
		"a unit twice":              {r, []int{1, 2, 1}, "dim", f, api.ErrTwice},
		"a unit twice, then none":   {r, []int{1, 1, 3}, "dim", f, api.ErrTwice},
		"none, then a unit twice":   {r, []int{1, 3, 1}, "dim", f, api.ErrNone},
		"one that is none twice":    {r, []int{3, 3}, "dim", f, api.ErrNone},
		"as many as can be, of two": {r, make([]int, api.MaxUnits), "dim", f, api.ErrNone},
	} {
		same(t, name, results(pick.Spread(c.r, c.units, c.param, c.f)), results([]int{}, c.want))
	}
}
