package pick

import (
	"maps"
	"slices"

	"cyclorama/api"
)

// web is groups that were found right, by their numbers.
type web struct {
	picks map[int]api.Pick
	names map[int][]int // the groups that a group names
	order []int         // all groups, each one behind those that it names
	done  map[int]bool  // the groups that are in the order; false for those that are on their way into it
}

// weave makes the web of groups, or says by which error of CheckGroups there is none.
func weave(l []api.Group) (*web, api.Fault) {
	if len(l) > api.MaxGroups {
		return nil, api.ErrLarge
	}
	w := &web{picks: map[int]api.Pick{}, names: map[int][]int{}, done: map[int]bool{}}
	ahead := 0
	for _, g := range l {
		if fault := checkGroup(g, ahead); fault != api.OK {
			return nil, fault
		}
		w.picks[g.Number] = g.Pick
		w.names[g.Number] = groupsOf(g.Pick)
		ahead = g.Number
	}
	if !w.hasAll(l) {
		return nil, api.ErrNone
	}
	how := ended(func() {
		for _, g := range l {
			w.arrange(g.Number)
		}
	})
	if how.fault != api.OK {
		return nil, how.fault
	}
	return w, api.OK
}

// checkGroup validates a group behind one that has the number ahead.
func checkGroup(g api.Group, ahead int) api.Fault {
	switch {
	case !within(g.Number, api.MaxGroup):
		return api.ErrRange
	case g.Number <= ahead:
		return api.ErrOrder
	}
	return Check(g.Pick)
}

// groupsOf returns the numbers of the groups that a right selection names.
func groupsOf(p api.Pick) []int {
	parts, _ := partsOf(nil, p, 1)
	var numbers []int
	for _, part := range parts {
		if part.Kind == api.PickGroup {
			numbers = append(numbers, part.From)
		}
	}
	return numbers
}

// hasAll says whether all groups are there that groups name.
func (w *web) hasAll(l []api.Group) bool {
	for _, g := range l {
		for _, number := range w.names[g.Number] {
			if _, there := w.picks[number]; !there {
				return false
			}
		}
	}
	return true
}

// arrange puts a group into the order, behind all that it uses.
func (w *web) arrange(number int) {
	done, begun := w.done[number]
	switch {
	case done:
		return
	case begun:
		panic(stop{fault: api.ErrLoop})
	}
	w.done[number] = false
	for _, named := range w.names[number] {
		w.arrange(named)
	}
	w.done[number] = true
	w.order = append(w.order, number)
}

// CheckGroups validates groups.
func CheckGroups(l []api.Group) api.Fault {
	_, fault := weave(l)
	return fault
}

// Uses returns the numbers of the groups that use a group.
func Uses(groups []api.Group, number int) ([]int, api.Fault) {
	w, fault := weave(groups)
	if fault != api.OK {
		return nil, fault
	}
	if _, there := w.picks[number]; !there {
		return nil, api.ErrNone
	}
	users := map[int]bool{}
	// What a group names stands ahead of it in the order, so that it is known by then whether it is a user.
	for _, user := range w.order {
		for _, named := range w.names[user] {
			if named == number || users[named] {
				users[user] = true
			}
		}
	}
	return slices.Sorted(maps.Keys(users)), api.OK
}
