package pick_test

import (
	"fmt"
	"math"
	"testing"

	"cyclorama/api"
	"cyclorama/pick"
)

// groupsOf makes groups of selections, with the numbers from 1 on.
func groupsOf(l ...api.Pick) []api.Group {
	var groups []api.Group
	for i, p := range l {
		groups = append(groups, api.Group{Number: i + 1, Pick: p})
	}
	return groups
}

// chain is groups each of which names the next one twice, but for the last one.
func chain(n int) []api.Group {
	var groups []api.Group
	for i := range n - 1 {
		groups = append(groups, api.Group{Number: i + 1, Pick: join(group(i+2), of(api.PickBack, group(i+2)))})
	}
	return append(groups, api.Group{Number: n, Pick: units(1, 9999)})
}

func TestCheckGroups(t *testing.T) {
	for name, l := range map[string][]api.Group{
		"none":               nil,
		"one":                groupsOf(one(1)),
		"the first number":   {{Number: 1, Pick: preset(999)}},
		"the last number":    {{Number: api.MaxGroup, Pick: one(1)}},
		"names of others":    groupsOf(group(3), one(1), join(group(2), group(2))),
		"a row":              chain(3),
		"as many as can be":  chain(api.MaxGroups),
		"two ways to a unit": groupsOf(join(group(2), group(3)), group(4), group(4), one(1)),
	} {
		same(t, name, pick.CheckGroups(l), api.OK)
	}
}

func TestCheckGroupsInOrder(t *testing.T) {
	bad := func(number int) api.Group { return api.Group{Number: number, Pick: api.Pick{}} }
	good := func(number int) api.Group { return api.Group{Number: number, Pick: one(1)} }
	many := make([]api.Group, api.MaxGroups+1)
	for name, c := range map[string]struct {
		l    []api.Group
		want api.Fault
	}{
		"too many":                     {many, api.ErrLarge},
		"numbers that are 0":           {many[1:], api.ErrRange},
		"a number below":               {[]api.Group{good(-1)}, api.ErrRange},
		"the least number":             {[]api.Group{good(math.MinInt)}, api.ErrRange},
		"a number above":               {[]api.Group{good(api.MaxGroup + 1)}, api.ErrRange},
		"the greatest number":          {[]api.Group{good(math.MaxInt)}, api.ErrRange},
		"a number ahead of its pick":   {[]api.Group{bad(0)}, api.ErrRange},
		"a number twice":               {[]api.Group{good(3), good(3)}, api.ErrOrder},
		"a number less":                {[]api.Group{good(3), good(2)}, api.ErrOrder},
		"an order ahead of a pick":     {[]api.Group{good(3), bad(2)}, api.ErrOrder},
		"a range ahead of an order":    {[]api.Group{good(3), good(0)}, api.ErrRange},
		"a pick of the first one":      {[]api.Group{bad(3), good(2)}, api.ErrKind},
		"a pick of the second one":     {[]api.Group{good(1), {Number: 2, Pick: group(0)}}, api.ErrRange},
		"a pick that is too deep":      {[]api.Group{{Number: 2, Pick: deep(13)}}, api.ErrLarge},
		"a pick ahead of a name":       {[]api.Group{{Number: 1, Pick: group(7)}, bad(2)}, api.ErrKind},
		"a range ahead of a name":      {[]api.Group{{Number: 1, Pick: group(7)}, good(0)}, api.ErrRange},
		"a name":                       {groupsOf(one(1), group(3)), api.ErrNone},
		"a name within":                {groupsOf(of(api.PickOdd, less(one(1), join(one(1), group(3))))), api.ErrNone},
		"a name ahead of a loop":       {groupsOf(group(1), group(3)), api.ErrNone},
		"a loop of one":                {groupsOf(group(1)), api.ErrLoop},
		"a loop of the last one":       {groupsOf(one(1), one(1), of(api.PickBack, join(one(1), group(3)))), api.ErrLoop},
		"a loop of two":                {groupsOf(group(2), group(1)), api.ErrLoop},
		"a loop of two behind another": {groupsOf(group(2), join(one(1), group(3)), group(2)), api.ErrLoop},
		"a loop of three":              {groupsOf(join(group(4), group(2)), group(3), less(group(4), group(1)), one(1)), api.ErrLoop},
		"a name at the deepest level":  {groupsOf(nest(11, group(2))), api.ErrNone},
		"a loop at the deepest level":  {groupsOf(nest(11, group(1))), api.ErrLoop},
		"a loop of all":                {append(chain(199), api.Group{Number: 999, Pick: group(999)}), api.ErrLoop},
	} {
		same(t, name, pick.CheckGroups(c.l), c.want)
		same(t, "Uses of "+name, results(pick.Uses(c.l, 1)), results([]int{}, c.want))
	}
	long := chain(api.MaxGroups)
	long[api.MaxGroups-1].Pick = group(1)
	same(t, "a long loop", pick.CheckGroups(long), api.ErrLoop)
}

func TestUses(t *testing.T) {
	l := groupsOf(group(3), one(1), join(group(5), group(2)), preset(2), one(2), of(api.PickOdd, group(1)))
	for number, want := range map[int][]int{1: {6}, 2: {1, 3, 6}, 3: {1, 6}, 4: {}, 5: {1, 3, 6}, 6: {}} {
		same(t, fmt.Sprint("Uses of ", number), results(pick.Uses(l, number)), results(want, api.OK))
	}
	for _, number := range []int{0, 7, -1, math.MinInt, math.MaxInt} {
		same(t, fmt.Sprint("Uses of ", number), results(pick.Uses(l, number)), results([]int{}, api.ErrNone))
	}
	same(t, "Uses in a row", results(pick.Uses(chain(200), 200)), results(upTo(199), api.OK))
	same(t, "Uses in a row", results(pick.Uses(chain(200), 100)), results(upTo(99), api.OK))
	same(t, "Uses of none", results(pick.Uses(nil, 1)), results([]int{}, api.ErrNone))
}
