package pick_test

import (
	"testing"

	"cyclorama/api"
	"cyclorama/pick"
)

// someGroups and somePresets are what the texts of TestUnits name.
func someGroups() []api.Group {
	return []api.Group{
		{Number: 1, Pick: units(6, 4)},
		{Number: 2, Pick: of(api.PickBack, group(1))},
		{Number: 5, Pick: join(group(2), one(1))},
		{Number: 7, Pick: preset(99)},
		{Number: 8, Pick: join(one(1), group(7))},
	}
}

func somePresets() []api.Preset {
	return []api.Preset{
		{Number: 3},
		{Number: 5, Title: "Two", Settings: []api.Setting{setting(2, "dim", 7), setting(2, "pan", 0), setting(6, "dim", 9), setting(9, "pan", 1)}},
	}
}

func TestUnits(t *testing.T) {
	r := pars(1, 2, 3, 4, 5, 6, 9, 20)
	for text, want := range map[string][]int{
		"3":                            {3},
		"7":                            {},
		"1 thru 6":                     {1, 2, 3, 4, 5, 6},
		"5 thru 9999":                  {5, 6, 9, 20},
		"7 thru 8":                     {},
		"9 thru 9998":                  {9, 20},
		"20 thru 5":                    {20, 9, 6, 5},
		"9999 thru 1":                  {20, 9, 6, 5, 4, 3, 2, 1},
		"8 thru 7":                     {},
		"group 1":                      {6, 5, 4},
		"group 2":                      {4, 5, 6},
		"group 5":                      {4, 5, 6, 1},
		"preset 3":                     {},
		"preset 5":                     {2, 6, 9},
		"group 2 + preset 5":           {4, 5, 6, 2, 9},
		"5 + 1 + 5 + 2 + 1":            {5, 1, 2},
		"1 thru 4 - 2":                 {1, 3, 4},
		"4 thru 1 - 2 thru 3":          {4, 1},
		"1 - 1":                        {},
		"1 - 2":                        {1},
		"odd 2 thru 6":                 {2, 4, 6},
		"odd 6 thru 2":                 {6, 4, 2},
		"even 2 thru 6":                {3, 5},
		"even 1":                       {},
		"odd 7":                        {},
		"odd 1 thru 20":                {1, 3, 5, 9},
		"back 1 thru 3":                {3, 2, 1},
		"back (3 + 1 + 2)":             {2, 1, 3},
		"every 3 from 1 1 thru 20":     {1, 4, 9},
		"every 3 from 2 1 thru 20":     {2, 5, 20},
		"every 3 from 5 1 thru 20":     {5, 20},
		"every 1 from 7 1 thru 20":     {9, 20},
		"every 1 from 9 1 thru 20":     {},
		"every 9999 from 8 1 thru 20":  {20},
		"every 9999 from 9999 1":       {},
		"odd (1 thru 6 - 3) + 2":       {1, 4, 6, 2},
		"1 thru 6 - 2 thru 4 + 3":      {1, 5, 6, 3},
		"1 thru 6 - (2 thru 4 + 6)":    {1, 5},
		"1 thru 6 - (2 thru 4 - 3)":    {1, 3, 5, 6},
		"back odd even 1 thru 20":      {6, 2},
		"group 5 - (group 1 - 5)":      {5, 1},
		"odd (1 + 1 + 2)":              {1},
		"even (2 + 2 + 3 + 4)":         {3},
		"back (1 + 2 + 1)":             {2, 1},
		"every 2 from 2 (1 + 1 + 2)":   {2},
		"odd (1 + (1 + 2) + (2 + 3))":  {1, 3},
		"group 1 + back group 1":       {6, 5, 4},
		"back group 1 + odd group 1":   {4, 5, 6},
		"1 + odd group 1 + group 1":    {1, 6, 4, 5},
		"(group 1 - 6) + group 1":      {5, 4, 6},
		"every 2 from 1 (group 5 + 2)": {4, 6, 2},
	} {
		p := parsed(t, text)
		same(t, "Units of "+text, results(pick.Units(r, someGroups(), somePresets(), p)), results(want, api.OK))
	}
	// Neither the rig nor the lists need have anything.
	same(t, "Units of nothing", results(pick.Units(api.Rig{}, nil, nil, units(1, 9999))), results([]int{}, api.OK))
}

func TestUnitsThatAreNotThere(t *testing.T) {
	for text, want := range map[string]api.Fault{
		"group 3":             api.ErrNone,
		"preset 4":            api.ErrNone,
		"preset 1":            api.ErrNone,
		"group 7":             api.ErrNone,
		"group 8":             api.ErrNone,
		"1 + group 3":         api.ErrNone,
		"(1 - 1) - preset 99": api.ErrNone,
		"1 - group 7":         api.ErrNone,
		"even back group 8":   api.ErrNone,
		// A group that is not used may name a preset that is not there.
		"group 5": api.OK,
	} {
		_, fault := pick.Units(pars(1, 2, 3, 4, 5, 6, 9), someGroups(), somePresets(), parsed(t, text))
		same(t, "Units of "+text, fault, want)
	}
	l, fault := pick.Units(pars(1, 2, 6, 9), someGroups(), somePresets(), join(one(1), group(3)))
	same(t, "Units behind one that is not there", results(l, fault), results([]int{}, api.ErrNone))
}

func TestUnitsInOrder(t *testing.T) {
	r := pars(1, 2, 6, 9)
	badRig := pars(1, 2, 6, 9)
	badRig.Units[1].Profile = "none"
	badPresets := append(somePresets(), api.Preset{Number: 5})
	badGroups := groupsOf(group(1))
	badPick := api.Pick{Kind: 77}
	for name, c := range map[string]struct {
		r       api.Rig
		groups  []api.Group
		presets []api.Preset
		p       api.Pick
		want    api.Fault
	}{
		"all are wrong":        {badRig, badGroups, badPresets, badPick, api.ErrName},
		"all but the rig":      {r, badGroups, badPresets, badPick, api.ErrOrder},
		"groups and selection": {r, badGroups, somePresets(), badPick, api.ErrLoop},
		"the selection":        {r, someGroups(), somePresets(), badPick, api.ErrKind},
		"a wrong part behind":  {r, someGroups(), somePresets(), join(group(3), badPick), api.ErrKind},
		"a name":               {r, someGroups(), somePresets(), group(3), api.ErrNone},
	} {
		same(t, name, results(pick.Units(c.r, c.groups, c.presets, c.p)), results([]int{}, c.want))
	}
}

// TestUnitsOfChains has groups that would be met 2^199 times, if they were searched for each time.
func TestUnitsOfChains(t *testing.T) {
	same(t, "Units of a chain", results(pick.Units(pars(3, 5, 9), chain(200), nil, group(1))), results([]int{3, 5, 9}, api.OK))
}

func TestUnitsOfManyUnits(t *testing.T) {
	r := pars(upTo(api.MaxUnits)...)
	p := join()
	for range 99 {
		p.Args = append(p.Args, units(9999, 1), units(1, 9999))
	}
	l, fault := pick.Units(r, nil, nil, of(api.PickBack, p))
	same(t, "Units of many", results(l, fault), results(upTo(api.MaxUnits), api.OK))
}
