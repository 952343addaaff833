package cue_test

import (
	"fmt"
	"math"
	"strings"
	"testing"

	"cyclorama/api"
	"cyclorama/cue"
)

var farNumbers = []int{math.MinInt, math.MaxInt}

// formed checks the form of a list by a function that looks at nothing else.
func formed(t *testing.T, name string, l []api.Cue, want api.Fault) {
	t.Helper()
	_, fault := cue.Clean(l)
	same(t, name, fault, want)
}

// timed is a move with a Delay and a Time.
func timed(delay, time int) api.Move {
	m := to(1, "dim", 5)
	m.Timed, m.Delay, m.Time = true, delay, time
	return m
}

// with is a cue with a change.
func with(change func(c *api.Cue)) api.Cue {
	c := plain(1)
	change(&c)
	return c
}

// full is a list of as many cues and moves as there can be.
func full() []api.Cue {
	l := cues(api.MaxCues)
	for i := range 5 {
		l[7*i].Moves = steps(0, api.MaxSettings)
	}
	return l
}

func TestRightForms(t *testing.T) {
	for name, l := range map[string][]api.Cue{
		"none":              nil,
		"empty":             {},
		"one":               cues(1),
		"the last number":   {plain(1), plain(api.MaxCue)},
		"as many as can be": full(),
		"a title":           {with(func(c *api.Cue) { c.Title = "A \"b\" ~!" })},
		"the longest title": {with(func(c *api.Cue) { c.Title = strings.Repeat("x", api.MaxTitle) })},
		"the longest times": {with(func(c *api.Cue) {
			c.Delay, c.Up, c.Down, c.Other, c.Follow = api.MaxTime, api.MaxTime, api.MaxTime, api.MaxTime, api.MaxFollow
		})},
		"Follow 0": {with(func(c *api.Cue) { c.Follow = 0 })},
		"a table": {with(func(c *api.Cue) {
			c.Curve = api.Curve{Kind: api.CurveTable, Points: []api.Point{{}, {Time: 1000, Way: 1000}}}
		})},
		"moves":               {plain(1, to(1, "a", 0), to(1, "b", api.Full), to(2, "a", 1), to(10, "a", 1), to(api.MaxUnit, "a", 1))},
		"a preset":            {plain(1, api.Move{Key: api.Key{Unit: 1, Param: "a"}, Value: api.Value{Preset: api.MaxPreset}})},
		"Release":             {plain(1, api.Move{Key: api.Key{Unit: 1, Param: "a"}, Release: true})},
		"Release with a Time": {plain(1, api.Move{Key: api.Key{Unit: 1, Param: "a"}, Release: true, Timed: true, Time: 1})},
		"Timed with nothing":  {plain(1, timed(0, 0))},
		"Timed with all":      {plain(1, timed(api.MaxTime, api.MaxTime))},
		"a key in each cue":   {plain(1, to(1, "a", 0)), plain(2, to(1, "a", 0))},
		"the longest name":    {plain(1, to(1, strings.Repeat("x", api.MaxName), 0))},
		"names byte by byte":  {plain(1, to(1, "a", 0), to(1, "a-b", 0), to(1, "a1", 0), to(1, "aa", 0))},
	} {
		formed(t, name, l, api.OK)
	}
}

func TestWrongCues(t *testing.T) {
	for name, c := range map[string]struct {
		c    api.Cue
		want api.Fault
	}{
		"number 0":        {plain(0), api.ErrRange},
		"a number below":  {plain(-1), api.ErrRange},
		"a number above":  {plain(api.MaxCue + 1), api.ErrRange},
		"a blank":         {with(func(c *api.Cue) { c.Title = " " }), api.ErrForm},
		"a blank ahead":   {with(func(c *api.Cue) { c.Title = " a" }), api.ErrForm},
		"a blank behind":  {with(func(c *api.Cue) { c.Title = "a " }), api.ErrForm},
		"another byte":    {with(func(c *api.Cue) { c.Title = "a\x7f" }), api.ErrForm},
		"a line":          {with(func(c *api.Cue) { c.Title = "a\nb" }), api.ErrForm},
		"a long title":    {with(func(c *api.Cue) { c.Title = strings.Repeat("x", api.MaxTitle+1) }), api.ErrForm},
		"Delay -1":        {with(func(c *api.Cue) { c.Delay = -1 }), api.ErrRange},
		"Delay too great": {with(func(c *api.Cue) { c.Delay = api.MaxTime + 1 }), api.ErrRange},
		"Up -1":           {with(func(c *api.Cue) { c.Up = -1 }), api.ErrRange},
		"Up too great":    {with(func(c *api.Cue) { c.Up = api.MaxTime + 1 }), api.ErrRange},
		"Down -1":         {with(func(c *api.Cue) { c.Down = -1 }), api.ErrRange},
		"Down too great":  {with(func(c *api.Cue) { c.Down = api.MaxTime + 1 }), api.ErrRange},
		"Other -1":        {with(func(c *api.Cue) { c.Other = -1 }), api.ErrRange},
		"Other too great": {with(func(c *api.Cue) { c.Other = api.MaxTime + 1 }), api.ErrRange},
		"Follow -2":       {with(func(c *api.Cue) { c.Follow = -2 }), api.ErrRange},
		"Follow too late": {with(func(c *api.Cue) { c.Follow = api.MaxFollow + 1 }), api.ErrRange},
		"no curve":        {with(func(c *api.Cue) { c.Curve.Kind = 0 }), api.ErrKind},
		"points":          {with(func(c *api.Cue) { c.Curve.Points = make([]api.Point, 1) }), api.ErrForm},
		"no points":       {with(func(c *api.Cue) { c.Curve.Kind = api.CurveTable }), api.ErrNone},
		"too many points": {with(func(c *api.Cue) { c.Curve = api.Curve{Kind: api.CurveTable, Points: make([]api.Point, 21)} }), api.ErrLarge},
		"too many moves":  {plain(1, steps(0, api.MaxSettings+1)...), api.ErrLarge},
		"wrong moves":     {plain(1, make([]api.Move, api.MaxSettings)...), api.ErrRange},
	} {
		formed(t, name, []api.Cue{c.c}, c.want)
	}
	for _, n := range farNumbers {
		for name, change := range map[string]func(c *api.Cue){
			"Number": func(c *api.Cue) { c.Number = n },
			"Delay":  func(c *api.Cue) { c.Delay = n },
			"Up":     func(c *api.Cue) { c.Up = n },
			"Down":   func(c *api.Cue) { c.Down = n },
			"Other":  func(c *api.Cue) { c.Other = n },
			"Follow": func(c *api.Cue) { c.Follow = n },
		} {
			formed(t, fmt.Sprint(name, " ", n), []api.Cue{with(change)}, api.ErrRange)
		}
	}
}

// TestCuesInOrder has cues with several errors, each one without the first of the one ahead.
func TestCuesInOrder(t *testing.T) {
	wrong := api.Cue{Number: 0, Title: " ", Up: -1, Moves: make([]api.Move, api.MaxSettings+1)}
	behind := func(change func(c *api.Cue)) []api.Cue {
		change(&wrong)
		return []api.Cue{plain(2), wrong}
	}
	large := make([]api.Cue, api.MaxCues+1)
	formed(t, "too many, and wrong", large, api.ErrLarge)
	formed(t, "as many as can be, and wrong", large[1:], api.ErrRange)
	formed(t, "a number", behind(func(c *api.Cue) {}), api.ErrRange)
	formed(t, "an order", behind(func(c *api.Cue) { c.Number = 1 }), api.ErrOrder)
	formed(t, "the same number", behind(func(c *api.Cue) { c.Number = 2 }), api.ErrOrder)
	formed(t, "a title", behind(func(c *api.Cue) { c.Number = 3 }), api.ErrForm)
	formed(t, "a time", behind(func(c *api.Cue) { c.Title = "" }), api.ErrRange)
	formed(t, "a curve", behind(func(c *api.Cue) { c.Up = 0 }), api.ErrKind)
	formed(t, "too many moves", behind(func(c *api.Cue) { c.Curve.Kind = api.CurveSoft }), api.ErrLarge)
	formed(t, "moves", behind(func(c *api.Cue) { c.Moves = c.Moves[1:] }), api.ErrRange)
	formed(t, "right", behind(func(c *api.Cue) { c.Moves = nil }), api.OK)

	// One cue after the other: moves of the first one, then the second one.
	formed(t, "moves of the first one", []api.Cue{plain(1, to(0, "dim", 0), to(1, "", 0)), plain(0)}, api.ErrRange)
	formed(t, "a name of the first one", []api.Cue{plain(1, to(1, "", 0)), plain(0)}, api.ErrName)
	formed(t, "the second one", []api.Cue{plain(1, to(1, "dim", 0)), plain(1), plain(0)}, api.ErrOrder)
}

func TestWrongMoves(t *testing.T) {
	release := func(v api.Value) api.Move {
		return api.Move{Key: api.Key{Unit: 1, Param: "dim"}, Value: v, Release: true}
	}
	value := func(level, preset int) api.Move {
		return api.Move{Key: api.Key{Unit: 1, Param: "dim"}, Value: api.Value{Level: level, Preset: preset}}
	}
	untimed := func(delay, time int) api.Move {
		m := timed(delay, time)
		m.Timed = false
		return m
	}
	for name, c := range map[string]struct {
		m    api.Move
		want api.Fault
	}{
		"unit 0":                   {to(0, "dim", 0), api.ErrRange},
		"a unit below":             {to(-1, "dim", 0), api.ErrRange},
		"a unit above":             {to(api.MaxUnit+1, "dim", 0), api.ErrRange},
		"the least unit":           {to(math.MinInt, "dim", 0), api.ErrRange},
		"the greatest unit":        {to(math.MaxInt, "dim", 0), api.ErrRange},
		"no name":                  {to(1, "", 0), api.ErrName},
		"a digit ahead":            {to(1, "1a", 0), api.ErrName},
		"a hyphen ahead":           {to(1, "-a", 0), api.ErrName},
		"another letter":           {to(1, "Dim", 0), api.ErrName},
		"a long name":              {to(1, strings.Repeat("x", api.MaxName+1), 0), api.ErrName},
		"Release with a level":     {release(api.Value{Level: 1}), api.ErrForm},
		"Release with a preset":    {release(api.Value{Preset: 1}), api.ErrForm},
		"Release with a far level": {release(api.Value{Level: -1}), api.ErrForm},
		"a level and a preset":     {value(1, 1), api.ErrForm},
		"both far away":            {value(-1, -1), api.ErrForm},
		"a level below":            {value(-1, 0), api.ErrRange},
		"a level above":            {value(api.Full+1, 0), api.ErrRange},
		"a preset below":           {value(0, -1), api.ErrRange},
		"a preset above":           {value(0, api.MaxPreset+1), api.ErrRange},
		"the least level":          {value(math.MinInt, 0), api.ErrRange},
		"the greatest level":       {value(math.MaxInt, 0), api.ErrRange},
		"the least preset":         {value(0, math.MinInt), api.ErrRange},
		"the greatest preset":      {value(0, math.MaxInt), api.ErrRange},
		"a Delay without Timed":    {untimed(1, 0), api.ErrForm},
		"a Time without Timed":     {untimed(0, 1), api.ErrForm},
		"no Delay without Timed":   {untimed(-1, 0), api.ErrForm},
		"Delay -1":                 {timed(-1, 0), api.ErrRange},
		"Time -1":                  {timed(0, -1), api.ErrRange},
		"Delay too great":          {timed(api.MaxTime+1, 0), api.ErrRange},
		"Time too great":           {timed(0, api.MaxTime+1), api.ErrRange},
		"the least Delay":          {timed(math.MinInt, 0), api.ErrRange},
		"the greatest Time":        {timed(0, math.MaxInt), api.ErrRange},
	} {
		formed(t, name, []api.Cue{plain(1, c.m)}, c.want)
		same(t, "Record with "+name, results(cue.Record(nil, 1, []api.Move{c.m}, 0)), none(c.want))
	}
}

// TestMovesInOrder has moves with several errors, each one without the first of the one ahead, and orders of keys.
func TestMovesInOrder(t *testing.T) {
	check := func(name string, want api.Fault, l ...api.Move) {
		t.Helper()
		formed(t, name, []api.Cue{plain(1, l...)}, want)
		if want != api.OK {
			same(t, "Record: "+name, results(cue.Record(nil, 1, l, 0)), none(want))
		}
	}
	wrong := api.Move{Key: api.Key{Unit: 0, Param: "-"}, Value: api.Value{Level: -1}, Release: true, Delay: -1}
	behind := func(change func(m *api.Move)) []api.Move {
		change(&wrong)
		return []api.Move{to(2, "dim", 0), wrong}
	}
	check("a unit", api.ErrRange, behind(func(m *api.Move) {})...)
	check("a name", api.ErrName, behind(func(m *api.Move) { m.Key.Unit = 1 })...)
	check("Release with a value", api.ErrForm, behind(func(m *api.Move) { m.Key.Param = "dim" })...)
	check("a level", api.ErrRange, behind(func(m *api.Move) { m.Release = false })...)
	check("no Timed", api.ErrForm, behind(func(m *api.Move) { m.Value.Level = 0 })...)
	check("a time", api.ErrRange, behind(func(m *api.Move) { m.Timed = true })...)
	check("an order", api.ErrOrder, behind(func(m *api.Move) { m.Delay = 0 })...)
	check("a right one", api.OK, behind(func(m *api.Move) { m.Key.Unit = 3 })...)
	check("a key twice", api.ErrOrder, to(1, "dim", 1), to(1, "dim", 2))
	check("parameters", api.ErrOrder, to(1, "pan", 1), to(1, "dim", 2))
	check("parameters byte by byte", api.ErrOrder, to(1, "a1", 1), to(1, "a-b", 2))
	check("units ahead of parameters", api.OK, to(1, "pan", 1), to(2, "dim", 2))
	check("units as numbers", api.ErrOrder, to(10, "dim", 1), to(9, "dim", 2))
	check("the first wrong one", api.ErrOrder, to(2, "dim", 1), to(1, "dim", 1), to(0, "", 1))
}

// TestAllMoves has more moves in all than a list can have. This is looked at behind all cues.
func TestAllMoves(t *testing.T) {
	l := full()
	l[0].Moves, l[1].Moves = l[0].Moves[1:], l[0].Moves[:1]
	formed(t, "as many as can be", l, api.OK)
	l[2].Moves = l[1].Moves
	formed(t, "one more", l, api.ErrLarge)
	l[299].Title = " "
	formed(t, "one more, and a wrong cue", l, api.ErrForm)
	l[299] = plain(300, to(0, "dim", 1))
	formed(t, "one more, and a wrong move", l, api.ErrRange)
}

// ofLists are the results of all functions with a list alone, with other arguments that are wrong, too.
func ofLists(l []api.Cue) map[string][]any {
	return map[string][]any{
		"State":    results(cue.State(l, -1)),
		"Record":   results(cue.Record(l, -1, make([]api.Move, 2001), 0)),
		"Delete":   results(cue.Delete(l, -1, 0)),
		"Copy":     results(cue.Copy(l, -1, -1)),
		"Renumber": results(cue.Renumber(l, -1, -1)),
		"Shift":    results(cue.Shift(l, -1, -1)),
		"Clean":    results(cue.Clean(l)),
		"Block":    results(cue.Block(l, -1)),
		"Unblock":  results(cue.Unblock(l, -1)),
	}
}

// ofRigs are the results of all functions with a rig and a list.
func ofRigs(r api.Rig, presets []api.Preset, l []api.Cue) map[string][]any {
	return map[string][]any{
		"CheckList": results(cue.CheckList(r, presets, l)),
		"Text":      results(cue.Text(r, presets, l)),
		"Levels":    results(cue.Levels(r, presets, l, -1)),
		"Marks":     results(cue.Marks(r, presets, l)),
		"Marked":    results(cue.Marked(r, presets, l)),
	}
}

// faulty checks that all calls have this fault, and no other results.
func faulty(t *testing.T, name string, calls map[string][]any, want api.Fault) {
	t.Helper()
	for call, got := range calls {
		l := results(want)
		switch call {
		case "CheckList":
		case "Text":
			l = results("", want)
		case "State":
			l = results([]api.Entry(nil), want)
		case "Levels":
			l = results([]api.Setting(nil), want)
		case "Marks":
			l = results([]api.Mark(nil), want)
		default:
			l = none(want)
		}
		same(t, call+": "+name, got, l)
	}
}

func TestFormsComeFirst(t *testing.T) {
	for name, c := range map[string]struct {
		l    []api.Cue
		want api.Fault
	}{
		"too many":       {make([]api.Cue, api.MaxCues+1), api.ErrLarge},
		"a number":       {[]api.Cue{plain(0)}, api.ErrRange},
		"an order":       {[]api.Cue{plain(2), plain(1)}, api.ErrOrder},
		"a title":        {[]api.Cue{with(func(c *api.Cue) { c.Title = " " })}, api.ErrForm},
		"a curve":        {[]api.Cue{with(func(c *api.Cue) { c.Curve.Kind = 7 })}, api.ErrKind},
		"a name":         {[]api.Cue{plain(1, to(1, "", 0))}, api.ErrName},
		"an order below": {[]api.Cue{plain(1, to(1, "zzz", 0), to(1, "dim", 0))}, api.ErrOrder},
		"all moves":      {changed(full(), func(l []api.Cue) { l[1].Moves = steps(0, 1) }), api.ErrLarge},
	} {
		faulty(t, name, ofLists(c.l), c.want)
		faulty(t, name, ofRigs(stage(), looks(), c.l), c.want)
	}
}

func TestRigsComeFirst(t *testing.T) {
	wrong := []api.Cue{plain(0)}
	bad := stage()
	bad.Units[1].Number = 1
	faulty(t, "a rig", ofRigs(bad, make([]api.Preset, 201), wrong), api.ErrOrder)
	faulty(t, "presets", ofRigs(stage(), make([]api.Preset, 201), wrong), api.ErrLarge)
	faulty(t, "a preset", ofRigs(stage(), []api.Preset{{Number: 1, Title: " "}}, wrong), api.ErrForm)
	same(t, "Read: a rig", results(cue.Read(bad, make([]api.Preset, 201), strings.Repeat("x", 600001))), results([]api.Cue(nil), 0, api.ErrOrder))
	same(t, "Read: presets", results(cue.Read(stage(), make([]api.Preset, 201), strings.Repeat("x", 600001))), results([]api.Cue(nil), 0, api.ErrLarge))
	same(t, "Read: a preset", results(cue.Read(stage(), []api.Preset{{Number: 1, Title: " "}}, "x")), results([]api.Cue(nil), 0, api.ErrForm))
}

func TestCheckList(t *testing.T) {
	preset := func(unit int, param string, n int) api.Move {
		return api.Move{Key: api.Key{Unit: unit, Param: param}, Value: api.Value{Preset: n}}
	}
	release := func(unit int, param string) api.Move {
		return api.Move{Key: api.Key{Unit: unit, Param: param}, Release: true}
	}
	for name, moves := range map[string][]api.Move{
		"none":    nil,
		"levels":  {to(1, "dim", 0), to(1, "zoom", 5), to(10, "pan", api.Full)},
		"presets": {preset(1, "dim", 1), preset(1, "pan", 7), preset(4, "dim", 2)},
		"Release": {release(1, "dim"), release(10, "dim")},
	} {
		same(t, name, cue.CheckList(stage(), looks(), []api.Cue{plain(5, moves...)}), api.OK)
	}
	for name, moves := range map[string][]api.Move{
		"no such unit":                 {to(1, "dim", 0), to(5, "dim", 0)},
		"no such parameter":            {to(1, "dim", 0), to(2, "dim", 0)},
		"no such unit to release":      {release(5, "dim")},
		"no such parameter to release": {release(1, "tilt")},
		"no such preset":               {preset(1, "dim", 3)},
		"no such preset, the last one": {preset(1, "dim", 999)},
		"a preset without the key":     {preset(1, "zoom", 1)},
		"a preset without the unit":    {preset(10, "dim", 1)},
		"neither":                      {preset(5, "dim", 3)},
	} {
		l := []api.Cue{plain(5), plain(6, moves...)}
		faulty(t, name, ofRigs(stage(), looks(), l), api.ErrNone)
		formed(t, name, l, api.OK)
	}
	same(t, "a wrong form behind", cue.CheckList(stage(), looks(), []api.Cue{plain(1, to(5, "dim", 0)), plain(0)}), api.ErrRange)
	same(t, "no rig", cue.CheckList(api.Rig{}, nil, cues(3)), api.OK)
}
