package pick_test

import (
	"cmp"
	"fmt"
	"math"
	"slices"
	"strings"
	"testing"

	"cyclorama/api"
	"cyclorama/pick"
)

// presetsOf makes presets with the numbers from 1 on.
func presetsOf(n int) []api.Preset {
	var l []api.Preset
	for i := range n {
		l = append(l, api.Preset{Number: i + 1})
	}
	return l
}

func with(l ...api.Setting) []api.Preset {
	return []api.Preset{{Number: 1, Settings: l}}
}

func titled(title string) []api.Preset { return []api.Preset{{Number: 1, Title: title}} }

func TestCheckPresets(t *testing.T) {
	r := pars(1, 2, 10)
	big, settings := large()
	for name, c := range map[string]struct {
		r api.Rig
		l []api.Preset
	}{
		"none":                   {r, nil},
		"one without anything":   {r, titled("")},
		"a title":                {r, titled("Low & blue")},
		"the longest title":      {r, titled(strings.Repeat("x", api.MaxTitle))},
		"settings":               {r, with(setting(1, "dim", 0), setting(1, "pan", api.Full), setting(2, "dim", 5), setting(10, "dim", 5))},
		"the last number":        {r, []api.Preset{{Number: api.MaxPreset}}},
		"as many as can be":      {r, presetsOf(api.MaxPresets)},
		"as many settings":       {big, with(settings[:api.MaxSettings]...)},
		"the same keys in two":   {r, append(with(setting(1, "dim", 5)), api.Preset{Number: 2, Settings: with(setting(1, "dim", 7))[0].Settings})},
		"the same title in two":  {r, append(titled("A"), api.Preset{Number: 2, Title: "A"})},
		"a rig without anything": {api.Rig{}, titled("A")},
	} {
		same(t, name, pick.CheckPresets(c.r, c.l), api.OK)
	}
}

func TestCheckPresetsInOrder(t *testing.T) {
	r := pars(1, 2, 10)
	bad := pars(1, 2)
	bad.Units[1].Number = 1
	big, settings := large()
	for name, c := range map[string]struct {
		r    api.Rig
		l    []api.Preset
		want api.Fault
	}{
		"a rig, and too many":        {bad, make([]api.Preset, api.MaxPresets+1), api.ErrOrder},
		"too many":                   {r, make([]api.Preset, api.MaxPresets+1), api.ErrLarge},
		"numbers that are 0":         {r, make([]api.Preset, api.MaxPresets), api.ErrRange},
		"a number below":             {r, []api.Preset{{Number: math.MinInt}}, api.ErrRange},
		"a number above":             {r, []api.Preset{{Number: api.MaxPreset + 1}}, api.ErrRange},
		"a number, and its title":    {r, []api.Preset{{Number: 0, Title: " "}}, api.ErrRange},
		"an order":                   {r, []api.Preset{{Number: 2}, {Number: 2}}, api.ErrOrder},
		"an order, and a title":      {r, []api.Preset{{Number: 2}, {Number: 1, Title: " "}}, api.ErrOrder},
		"a range, and an order":      {r, []api.Preset{{Number: 2}, {Number: 0}}, api.ErrRange},
		"a blank":                    {r, titled(" "), api.ErrForm},
		"a blank ahead":              {r, titled(" a"), api.ErrForm},
		"a blank behind":             {r, titled("a "), api.ErrForm},
		"another byte":               {r, titled("a\x7f"), api.ErrForm},
		"a line":                     {r, titled("a\nb"), api.ErrForm},
		"a title that is too long":   {r, titled(strings.Repeat("x", api.MaxTitle+1)), api.ErrForm},
		"a title, and settings":      {big, []api.Preset{{Number: 1, Title: " ", Settings: settings}}, api.ErrForm},
		"settings, and wrong ones":   {r, with(settings...), api.ErrLarge},
		"one setting too many":       {big, with(settings[:api.MaxSettings+1]...), api.ErrLarge},
		"no such unit":               {r, with(setting(3, "dim", 0)), api.ErrNone},
		"no such parameter":          {r, with(setting(1, "zoom", 0)), api.ErrNone},
		"no key, and no level":       {r, with(setting(3, "dim", -1)), api.ErrNone},
		"a level below":              {r, with(setting(1, "dim", -1)), api.ErrRange},
		"a level above":              {r, with(setting(1, "dim", api.Full+1)), api.ErrRange},
		"a key twice":                {r, with(setting(1, "dim", 1), setting(1, "dim", 1)), api.ErrOrder},
		"keys by parameter":          {r, with(setting(1, "pan", 1), setting(1, "dim", 1)), api.ErrOrder},
		"keys by unit":               {r, with(setting(2, "dim", 1), setting(1, "pan", 1)), api.ErrOrder},
		"units as numbers":           {r, with(setting(10, "dim", 1), setting(2, "dim", 1)), api.ErrOrder},
		"a level, and an order":      {r, with(setting(2, "dim", 1), setting(1, "pan", -1)), api.ErrRange},
		"an order, and then a key":   {r, with(setting(2, "dim", 1), setting(1, "dim", 1), setting(3, "dim", 1)), api.ErrOrder},
		"settings, and then a title": {r, append(with(setting(3, "dim", 0)), api.Preset{Number: 2, Title: " "}), api.ErrNone},
		"one that is right, then":    {r, append(titled("A"), api.Preset{Number: 1}), api.ErrOrder},
	} {
		same(t, name, pick.CheckPresets(c.r, c.l), c.want)
		same(t, "Units with "+name, results(pick.Units(c.r, groupsOf(group(1)), c.l, api.Pick{})), results([]int{}, c.want))
		same(t, "Record with "+name, results(pick.Record(c.r, c.l, 0, " ", make([]api.Setting, 20001), true)), results([]int{}, c.want))
	}
}

func TestCompareKeys(t *testing.T) {
	keys := []api.Key{{Unit: math.MinInt, Param: "z"}, {}, {Param: "a"}, {Unit: 2}, {Unit: 2, Param: "B"}, {Unit: 2, Param: "a-b"}, {Unit: 2, Param: "a1"}, {Unit: 10, Param: "a"}, {Unit: math.MaxInt}}
	for i, a := range keys {
		for j, b := range keys {
			same(t, fmt.Sprintf("CompareKeys(%+v, %+v)", a, b), pick.CompareKeys(a, b), cmp.Compare(i, j))
		}
	}
}

func TestSorted(t *testing.T) {
	l := []api.Setting{setting(3, "dim", 1), setting(-5, "", 70000), setting(3, "b", 2), setting(20, "a", 3), setting(3, "dim", 4), setting(3, "B", 5), setting(3, "dim", 6)}
	want := []api.Setting{setting(-5, "", 70000), setting(3, "B", 5), setting(3, "b", 2), setting(3, "dim", 6), setting(20, "a", 3)}
	same(t, "Sorted", results(pick.Sorted(l)), results(want, api.OK))
	same(t, "Sorted of none", results(pick.Sorted(nil)), results([]int{}, api.OK))
	extremes := []api.Setting{setting(math.MaxInt, "a", 1), setting(math.MinInt, "a", 2)}
	same(t, "Sorted of extremes", results(pick.Sorted(extremes)), results([]api.Setting{extremes[1], extremes[0]}, api.OK))
	many := make([]api.Setting, 10*api.MaxSettings+1)
	for i := range many {
		many[i] = setting(len(many)-i, "dim", i)
	}
	same(t, "one too many", results(pick.Sorted(many)), results([]int{}, api.ErrLarge))
	sorted, fault := pick.Sorted(many[1:])
	same(t, "as many as can be", results(len(sorted), sorted[0], sorted[19999], fault), results(20000, setting(1, "dim", 20000), setting(20000, "dim", 1), api.OK))
}

func TestRecord(t *testing.T) {
	r := pars(1, 2, 3)
	before := []api.Preset{
		{Number: 2, Title: "Two", Settings: []api.Setting{setting(1, "pan", 1), setting(2, "dim", 2)}},
		{Number: 5, Title: "Five", Settings: []api.Setting{setting(3, "dim", 9)}},
	}
	given := []api.Setting{setting(2, "pan", 7), setting(1, "dim", 6), setting(2, "dim", 5), setting(2, "pan", 8)}
	sorted := []api.Setting{setting(1, "dim", 6), setting(2, "dim", 5), setting(2, "pan", 8)}
	merged := []api.Setting{setting(1, "dim", 6), setting(1, "pan", 1), setting(2, "dim", 5), setting(2, "pan", 8)}
	for name, c := range map[string]struct {
		number int
		title  string
		l      []api.Setting
		merge  bool
		want   []api.Preset
	}{
		"in place":              {2, "New", given, false, []api.Preset{{Number: 2, Title: "New", Settings: sorted}, before[1]}},
		"without a title":       {2, "", given, false, []api.Preset{{Number: 2, Settings: sorted}, before[1]}},
		"without settings":      {2, "New", nil, false, []api.Preset{{Number: 2, Title: "New"}, before[1]}},
		"merged":                {2, "New", given, true, []api.Preset{{Number: 2, Title: "New", Settings: merged}, before[1]}},
		"merged without title":  {2, "", given, true, []api.Preset{{Number: 2, Title: "Two", Settings: merged}, before[1]}},
		"merged with none":      {2, "", nil, true, before},
		"the last one":          {5, "", given, false, []api.Preset{before[0], {Number: 5, Settings: sorted}}},
		"ahead":                 {1, "One", given, false, []api.Preset{{Number: 1, Title: "One", Settings: sorted}, before[0], before[1]}},
		"between, merged":       {3, "", given, true, []api.Preset{before[0], {Number: 3, Settings: sorted}, before[1]}},
		"behind":                {999, "", nil, true, []api.Preset{before[0], before[1], {Number: 999}}},
		"behind, with settings": {6, "Six", given, true, []api.Preset{before[0], before[1], {Number: 6, Title: "Six", Settings: sorted}}},
	} {
		same(t, name, results(pick.Record(r, before, c.number, c.title, c.l, c.merge)), results(c.want, api.OK))
	}
	same(t, "the first one", results(pick.Record(r, nil, 4, "Low", given, true)), results([]api.Preset{{Number: 4, Title: "Low", Settings: sorted}}, api.OK))
}

func TestRecordInOrder(t *testing.T) {
	r, none := pars(1, 2), setting(3, "dim", -1)
	for name, c := range map[string]struct {
		number int
		title  string
		l      []api.Setting
		want   api.Fault
	}{
		"a number, and all":     {0, " ", make([]api.Setting, 20001), api.ErrRange},
		"a number below":        {math.MinInt, "", nil, api.ErrRange},
		"a number above":        {1000, "", nil, api.ErrRange},
		"a title, and all":      {1, " ", make([]api.Setting, 20001), api.ErrForm},
		"a title that is long":  {1, strings.Repeat("x", 61), nil, api.ErrForm},
		"settings":              {1, "A", make([]api.Setting, 20001), api.ErrLarge},
		"settings that are not": {1, "A", make([]api.Setting, 20000), api.ErrNone},
		"a key":                 {1, "", []api.Setting{setting(1, "zoom", 0)}, api.ErrNone},
		"a key, and its level":  {1, "", []api.Setting{none}, api.ErrNone},
		"a level":               {1, "", []api.Setting{setting(1, "dim", -1)}, api.ErrRange},
		"a level above":         {1, "", []api.Setting{setting(1, "dim", api.Full+1)}, api.ErrRange},
		"a level, then a key":   {1, "", []api.Setting{setting(1, "dim", -1), none}, api.ErrRange},
		"a key, then a level":   {1, "", []api.Setting{none, setting(1, "dim", -1)}, api.ErrNone},
		"a level that is last":  {1, "", []api.Setting{setting(1, "dim", 5), setting(1, "dim", 70000), setting(1, "dim", 6)}, api.ErrRange},
	} {
		for _, merge := range []bool{false, true} {
			same(t, name, results(pick.Record(r, presetsOf(3), c.number, c.title, c.l, merge)), results([]int{}, c.want))
		}
	}
}

func TestRecordOfManyPresets(t *testing.T) {
	r, full := pars(1), presetsOf(api.MaxPresets)
	large := results([]int{}, api.ErrLarge)
	same(t, "a further one", results(pick.Record(r, full, 999, "", nil, false)), large)
	same(t, "a further one, merged", results(pick.Record(r, full, 999, "", nil, true)), large)
	same(t, "a further one with a wrong key", results(pick.Record(r, full, 999, "", []api.Setting{setting(2, "dim", 0)}, true)), results([]int{}, api.ErrNone))
	want := slices.Clone(full)
	want[199].Title = "A"
	same(t, "one that is there", results(pick.Record(r, full, 200, "A", nil, false)), results(want, api.OK))
	l, fault := pick.Record(r, full[:199], 999, "", nil, false)
	same(t, "the last one that can be", results(len(l), fault), results(200, api.OK))
}

func TestRecordOfManySettings(t *testing.T) {
	r, all := large()
	most := all[:api.MaxSettings]
	record := func(before, l []api.Setting, merge bool) string {
		presets, fault := pick.Record(r, with(before...), 1, "", l, merge)
		if fault != api.OK {
			same(t, "what is returned", results(presets), results([]int{}))
			return fmt.Sprint("fault ", int(fault))
		}
		return fmt.Sprint(len(presets[0].Settings))
	}
	tooMany := fmt.Sprint("fault ", int(api.ErrLarge))
	same(t, "as many as can be", record(nil, most, false), "2000")
	same(t, "one more", record(nil, all[:api.MaxSettings+1], false), tooMany)
	same(t, "in place of others", record(all[100:1100], most, false), "2000")
	same(t, "merged with such as are there", record(all[100:1100], most, true), "2000")
	same(t, "merged with one other", record(all[2000:2001], most, true), tooMany)
	same(t, "merged with one other, the other way", record(most, all[2000:2001], true), tooMany)
	same(t, "merged with one less", record(all[2000:2001], most[1:], true), "2000")
	same(t, "each one ten times", record(most, slices.Repeat(most, 10), true), "2000")
	same(t, "each one ten times, and one more", record(most, append(slices.Repeat(most, 10), most[0]), true), tooMany)
}

func TestLevel(t *testing.T) {
	dim := api.Key{Unit: 3, Param: "dim"}
	presets := []api.Preset{
		{Number: 4, Settings: []api.Setting{setting(2, "dim", 20), setting(3, "pan", 25), setting(3, "dim", 30), setting(3, "dim", 35)}},
		{Number: 2, Settings: []api.Setting{setting(3, "pan", 40)}},
		{Number: 2, Settings: []api.Setting{setting(3, "dim", 50)}},
		{Number: 4, Settings: []api.Setting{setting(3, "dim", 60)}},
		{Number: 0, Settings: []api.Setting{setting(3, "dim", 70)}},
		{Number: -1, Title: " ", Settings: []api.Setting{setting(3, "dim", 80)}},
	}
	for _, c := range []struct {
		k     api.Key
		v     api.Value
		n     int
		fault api.Fault
	}{
		{dim, api.Value{Level: 5}, 5, api.OK},
		{dim, api.Value{}, 0, api.OK},
		{dim, api.Value{Level: api.Full}, api.Full, api.OK},
		{api.Key{}, api.Value{Level: 5}, 5, api.OK},
		{dim, api.Value{Preset: 4}, 30, api.OK},
		{api.Key{Unit: 2, Param: "dim"}, api.Value{Preset: 4}, 20, api.OK},
		{api.Key{Unit: 3, Param: "pan"}, api.Value{Preset: 4}, 25, api.OK},
		{api.Key{Unit: 3, Param: "pan"}, api.Value{Preset: 2}, 40, api.OK},
		{dim, api.Value{Preset: 2}, 0, api.ErrNone},
		{dim, api.Value{Preset: 3}, 0, api.ErrNone},
		{dim, api.Value{Preset: -1}, 80, api.OK},
		{dim, api.Value{Preset: -2}, 0, api.ErrNone},
		{api.Key{Unit: 4, Param: "dim"}, api.Value{Preset: 4}, 0, api.ErrNone},
		{api.Key{Unit: 3, Param: "zoom"}, api.Value{Preset: 4}, 0, api.ErrNone},
		{dim, api.Value{Level: 1, Preset: 4}, 0, api.ErrForm},
		{dim, api.Value{Level: -1, Preset: 4}, 0, api.ErrForm},
		{dim, api.Value{Level: -1, Preset: 77}, 0, api.ErrForm},
		{dim, api.Value{Level: -1}, 0, api.ErrRange},
		{dim, api.Value{Level: api.Full + 1}, 0, api.ErrRange},
		{dim, api.Value{Level: math.MinInt}, 0, api.ErrRange},
	} {
		same(t, fmt.Sprintf("Level(%+v, %+v)", c.k, c.v), results(pick.Level(presets, c.k, c.v)), results(c.n, c.fault))
	}
	same(t, "without presets", results(pick.Level(nil, dim, api.Value{Preset: 4})), results(0, api.ErrNone))
}
