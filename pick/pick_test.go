package pick_test

import (
	"fmt"
	"math"
	"testing"

	"cyclorama/api"
	"cyclorama/pick"
)

func TestCheckOfRightOnes(t *testing.T) {
	for _, p := range []api.Pick{
		one(1), one(api.MaxUnit), units(1, api.MaxUnit), units(api.MaxUnit, 1),
		group(1), group(api.MaxGroup), preset(1), preset(api.MaxPreset),
		join(one(1), one(1)), join(one(1), one(2), one(3)), less(one(1), group(2)),
		of(api.PickOdd, one(1)), of(api.PickEven, one(1)), of(api.PickBack, one(1)),
		every(1, 1, one(1)), every(api.MaxUnit, api.MaxUnit, one(1)), every(1, api.MaxUnit, one(1)),
		{Kind: api.PickUnits, From: 1, To: 2, Args: []api.Pick{}},
		deep(api.MaxPickDeep), wide(api.MaxPick),
	} {
		same(t, fmt.Sprintf("Check(%+v)", p), pick.Check(p), api.OK)
	}
}

func TestCheckOfNumbers(t *testing.T) {
	wrong := map[string]func(n int) api.Pick{
		"From of PickUnits": func(n int) api.Pick { return units(n, 1) },
		"To of PickUnits":   func(n int) api.Pick { return units(1, n) },
		"From of PickEvery": func(n int) api.Pick { return every(n, 1, one(1)) },
		"To of PickEvery":   func(n int) api.Pick { return every(1, n, one(1)) },
		"PickGroup":         group,
		"PickPreset":        preset,
	}
	for name, make := range wrong {
		most := api.MaxUnit
		if name == "PickGroup" || name == "PickPreset" {
			most = 999
		}
		for _, n := range []int{0, -1, most + 1, math.MinInt, math.MaxInt} {
			same(t, fmt.Sprint(name, " ", n), pick.Check(make(n)), api.ErrRange)
		}
	}
}

func TestCheckOfForms(t *testing.T) {
	two := []api.Pick{one(1), one(2)}
	for _, p := range []api.Pick{
		{Kind: api.PickUnits, From: 1, To: 1, Args: two[:1]},
		{Kind: api.PickGroup, From: 1, To: 1}, {Kind: api.PickGroup, From: 1, Args: two[:1]},
		{Kind: api.PickPreset, From: 1, To: -1}, {Kind: api.PickPreset, From: 1, Args: two},
		{Kind: api.PickJoin, From: 1, Args: two}, {Kind: api.PickJoin, To: 1, Args: two},
		join(), join(one(1)),
		{Kind: api.PickLess, From: 1, Args: two}, {Kind: api.PickLess, To: 1, Args: two},
		of(api.PickLess), of(api.PickLess, one(1)), of(api.PickLess, one(1), one(2), one(3)),
		{Kind: api.PickOdd, From: 1, Args: two[:1]}, {Kind: api.PickOdd, To: 1, Args: two[:1]}, of(api.PickOdd), of(api.PickOdd, two...),
		{Kind: api.PickEven, From: 1, Args: two[:1]}, {Kind: api.PickEven, To: 1, Args: two[:1]}, of(api.PickEven), of(api.PickEven, two...),
		{Kind: api.PickBack, From: 1, Args: two[:1]}, {Kind: api.PickBack, To: 1, Args: two[:1]}, of(api.PickBack), of(api.PickBack, two...),
		{Kind: api.PickEvery, From: 1, To: 1}, {Kind: api.PickEvery, From: 1, To: 1, Args: two},
	} {
		same(t, fmt.Sprintf("Check(%+v)", p), pick.Check(p), api.ErrForm)
	}
}

func TestCheckOfKinds(t *testing.T) {
	for _, kind := range []int{0, -1, 10, math.MinInt, math.MaxInt} {
		same(t, fmt.Sprint("kind ", kind), pick.Check(of(kind)), api.ErrKind)
	}
	same(t, "the zero selection", pick.Check(api.Pick{}), api.ErrKind)
}

func TestCheckOfSizes(t *testing.T) {
	same(t, "too deep", pick.Check(deep(api.MaxPickDeep+1)), api.ErrLarge)
	same(t, "too many parts", pick.Check(wide(api.MaxPick+1)), api.ErrLarge)
	// As many parts as there can be, but they are deeper.
	same(t, "parts on three levels", pick.Check(join(wide(100), wide(99))), api.OK)
	same(t, "too many on three levels", pick.Check(join(wide(100), wide(100))), api.ErrLarge)
	bad := deep(api.MaxPickDeep + 1)
	bad.Kind = 77
	same(t, "too deep, and of no kind", pick.Check(bad), api.ErrLarge)
	endless := make([]api.Pick, 1)
	endless[0] = of(api.PickOdd, endless...)
	same(t, "one that contains itself", pick.Check(endless[0]), api.ErrLarge)
	level := []api.Pick{one(1), one(1)}
	for range 40 {
		level = []api.Pick{join(level...), join(level...)}
	}
	same(t, "2^40 parts", pick.Check(level[0]), api.ErrLarge)
	// The Args of a part that uses none count, too.
	full := one(1)
	full.Args = wide(api.MaxPick + 1).Args
	same(t, "units with too many Args", pick.Check(full), api.ErrLarge)
	full.Args = full.Args[1:]
	same(t, "units with Args", pick.Check(full), api.ErrForm)
}

// TestCheckInOrder has selections with several errors.
func TestCheckInOrder(t *testing.T) {
	noKind, noForm, noRange := of(0, one(0)), units(0, 0), group(0)
	noKind.From = 5
	noForm.Args = []api.Pick{of(0)}
	for _, c := range []struct {
		p    api.Pick
		want api.Fault
	}{
		{noKind, api.ErrKind},
		{noForm, api.ErrForm},
		{noRange, api.ErrRange},
		{join(noKind, noForm), api.ErrKind},
		{join(noForm, noKind), api.ErrForm},
		{join(one(1), noRange, noForm), api.ErrRange},
		{join(join(one(1), noRange), noForm), api.ErrRange},
		{join(of(api.PickOdd), noRange), api.ErrForm},
		{every(0, 1, of(0)), api.ErrRange},
		{every(1, 0, of(0)), api.ErrRange},
		{every(1, 1, of(0)), api.ErrKind},
		{api.Pick{Kind: api.PickJoin, From: 1, Args: []api.Pick{noKind, noKind}}, api.ErrForm},
		{api.Pick{Kind: api.PickGroup, To: 1}, api.ErrForm},
	} {
		same(t, fmt.Sprintf("Check(%+v)", c.p), pick.Check(c.p), c.want)
	}
}
