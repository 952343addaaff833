package pick

import (
	"slices"

	"cyclorama/api"
)

// search is a search for the units of selections.
type search struct {
	units   []api.Unit
	presets []api.Preset
	groups  map[int]api.Pick
	found   map[int][]int // the units of groups that were met before: they can be met very often
}

// Units returns the units of a selection.
func Units(r api.Rig, groups []api.Group, presets []api.Preset, p api.Pick) ([]int, api.Fault) {
	if fault := CheckPresets(r, presets); fault != api.OK {
		return nil, fault
	}
	w, fault := weave(groups)
	if fault != api.OK {
		return nil, fault
	}
	if fault := Check(p); fault != api.OK {
		return nil, fault
	}
	s := search{units: r.Units, presets: presets, groups: w.picks, found: map[int][]int{}}
	var units []int
	how := ended(func() { units = s.of(p) })
	return units, how.fault
}

// of returns the units of a selection, each once. It changes none of those that it found before.
func (s search) of(p api.Pick) []int {
	switch p.Kind {
	case api.PickUnits:
		return s.between(p.From, p.To)
	case api.PickGroup:
		return s.group(p.From)
	case api.PickPreset:
		return s.preset(p.From)
	case api.PickJoin:
		return s.join(p.Args)
	}
	first := s.of(p.Args[0])
	switch p.Kind {
	case api.PickLess:
		return without(first, s.of(p.Args[1]))
	case api.PickOdd:
		return every(first, 1, 2)
	case api.PickEven:
		return every(first, 2, 2)
	case api.PickBack:
		return back(first)
	}
	return every(first, p.To, p.From)
}

func (s search) between(from, to int) []int {
	var l []int
	for _, u := range s.units {
		if u.Number >= min(from, to) && u.Number <= max(from, to) {
			l = append(l, u.Number)
		}
	}
	if from > to {
		return back(l)
	}
	return l
}

func (s search) group(number int) []int {
	if l, known := s.found[number]; known {
		return l
	}
	p, there := s.groups[number]
	if !there {
		panic(stop{fault: api.ErrNone})
	}
	l := s.of(p)
	s.found[number] = l
	return l
}

func (s search) preset(number int) []int {
	p, there := find(s.presets, number)
	if !there {
		panic(stop{fault: api.ErrNone})
	}
	var l []int
	for _, setting := range p.Settings {
		l = append(l, setting.Key.Unit)
	}
	return slices.Compact(l)
}

func (s search) join(args []api.Pick) []int {
	var l []int
	for _, arg := range args {
		l = append(l, without(s.of(arg), l)...)
	}
	return l
}

// without returns the units of a list that another one does not have.
func without(l, other []int) []int {
	var left []int
	for _, unit := range l {
		if !slices.Contains(other, unit) {
			left = append(left, unit)
		}
	}
	return left
}

// every returns each step-th unit of a list, from number first on.
func every(l []int, first, step int) []int {
	var some []int
	for i := first - 1; i < len(l); i += step {
		some = append(some, l[i])
	}
	return some
}

func back(l []int) []int {
	other := slices.Clone(l)
	slices.Reverse(other)
	return other
}
