package cue_test

import (
	"fmt"
	"regexp"
	"slices"
	"strconv"
	"strings"

	"cyclorama/api"
	"cyclorama/level"
	"cyclorama/pick"
)

// The rules of the chapter, written down a second time: key by key, with a look back through the list for each value.

type rule struct {
	broken bool
	fault  api.Fault
}

// first returns the fault of the first rule that is broken.
func first(rules ...rule) api.Fault {
	for _, r := range rules {
		if r.broken {
			return r.fault
		}
	}
	return api.OK
}

func outside(n, least, most int) bool { return n < least || n > most }

func isAnyOutside(least, most int, l ...int) bool {
	return slices.Min(l) < least || slices.Max(l) > most
}

var (
	titleForm = regexp.MustCompile(`^([!-~]([ -~]{0,58}[!-~])?)?$`)
	nameForm  = regexp.MustCompile(`^[a-z][a-z0-9-]{0,19}$`)
)

// isBehind says whether a key comes behind another one.
func isBehind(k, other api.Key) bool {
	return k.Unit > other.Unit || k.Unit == other.Unit && k.Param > other.Param
}

func movesFault(l []api.Move) api.Fault {
	fault := first(rule{len(l) > 2000, api.ErrLarge})
	for i, m := range l {
		if fault != api.OK {
			break
		}
		v := m.Value
		fault = first(
			rule{outside(m.Key.Unit, 1, 9999), api.ErrRange},
			rule{!nameForm.MatchString(m.Key.Param), api.ErrName},
			rule{m.Release && (v.Level != 0 || v.Preset != 0), api.ErrForm},
			rule{v.Level != 0 && v.Preset != 0, api.ErrForm},
			rule{outside(v.Level, 0, 65535), api.ErrRange},
			rule{outside(v.Preset, 0, 999), api.ErrRange},
			rule{!m.Timed && (m.Delay != 0 || m.Time != 0), api.ErrForm},
			rule{isAnyOutside(0, 36000000, m.Delay, m.Time), api.ErrRange},
			rule{i > 0 && !isBehind(m.Key, l[max(0, i-1)].Key), api.ErrOrder},
		)
	}
	return fault
}

func formFault(l []api.Cue) api.Fault {
	fault := first(rule{len(l) > 300, api.ErrLarge})
	all := 0
	for i, c := range l {
		if fault != api.OK {
			return fault
		}
		all += len(c.Moves)
		curve, moves := level.CheckCurve(c.Curve), movesFault(c.Moves)
		fault = first(
			rule{outside(c.Number, 1, 9999999), api.ErrRange},
			rule{i > 0 && c.Number <= l[max(0, i-1)].Number, api.ErrOrder},
			rule{!titleForm.MatchString(c.Title), api.ErrForm},
			rule{isAnyOutside(0, 36000000, c.Delay, c.Up, c.Down, c.Other), api.ErrRange},
			rule{outside(c.Follow, -1, 36000000), api.ErrRange},
			rule{curve != api.OK, curve},
			rule{moves != api.OK, moves},
		)
	}
	return first(rule{fault != api.OK, fault}, rule{all > 10000, api.ErrLarge})
}

func listFault(r api.Rig, presets []api.Preset, l []api.Cue) api.Fault {
	ahead, form := pick.CheckPresets(r, presets), formFault(l)
	if ahead != api.OK || form != api.OK {
		return first(rule{ahead != api.OK, ahead}, rule{true, form})
	}
	for _, c := range l {
		for _, m := range c.Moves {
			_, known := paramOf(r, m.Key)
			_, valued := levelOf(presets, m)
			if !known || !valued {
				return api.ErrNone
			}
		}
	}
	return api.OK
}

func paramOf(r api.Rig, k api.Key) (api.Param, bool) {
	for _, u := range r.Units {
		for _, p := range r.Library {
			for _, param := range p.Params {
				if u.Number == k.Unit && p.Name == u.Profile && param.Name == k.Param {
					return param, true
				}
			}
		}
	}
	return api.Param{}, false
}

// levelOf is the level of a move's value.
func levelOf(presets []api.Preset, m api.Move) (int, bool) {
	if m.Value.Preset == 0 {
		return m.Value.Level, true
	}
	for _, p := range presets {
		for _, s := range p.Settings {
			if p.Number == m.Value.Preset && s.Key == m.Key {
				return s.Level, true
			}
		}
	}
	return 0, false
}

// moveOf returns the move of a key in a cue.
func moveOf(c api.Cue, k api.Key) (api.Move, bool) {
	for _, m := range c.Moves {
		if m.Key == k {
			return m, true
		}
	}
	return api.Move{}, false
}

// back looks from cue number i (from 0 on) back for the last move of a key, and returns it without Timed, and the number of its cue. Without one it is a Release.
func back(l []api.Cue, i int, k api.Key) (api.Move, int) {
	for ; i >= 0; i-- {
		if m, there := moveOf(l[i], k); there {
			return api.Move{Key: k, Value: m.Value, Release: m.Release}, l[i].Number
		}
	}
	return api.Move{Key: k, Release: true}, 0
}

// keysIn returns all keys that a list moves, in order.
func keysIn(l []api.Cue) []api.Key {
	var keys []api.Key
	for _, c := range l {
		for _, m := range c.Moves {
			i := slices.IndexFunc(keys, func(k api.Key) bool { return !isBehind(m.Key, k) })
			switch {
			case i < 0:
				keys = append(keys, m.Key)
			case keys[i] != m.Key:
				keys = slices.Insert(keys, i, m.Key)
			}
		}
	}
	return keys
}

func placeOf(l []api.Cue, number int) int {
	return slices.IndexFunc(l, func(c api.Cue) bool { return c.Number == number })
}

// stateAt is the state at cue number i.
func stateAt(l []api.Cue, i int) []api.Entry {
	var entries []api.Entry
	for _, k := range keysIn(l) {
		if m, number := back(l, i, k); !m.Release {
			entries = append(entries, api.Entry{Key: k, Value: m.Value, Cue: number})
		}
	}
	return entries
}

// levelAt is the level of a key at cue number i.
func levelAt(r api.Rig, presets []api.Preset, l []api.Cue, i int, k api.Key) int {
	m, _ := back(l, i, k)
	if m.Release {
		param, _ := paramOf(r, k)
		return param.Default
	}
	n, _ := levelOf(presets, m)
	return n
}

// put gives a cue a move in place of that of its key.
func put(c *api.Cue, m api.Move) {
	c.Moves = slices.DeleteFunc(slices.Clone(c.Moves), func(other api.Move) bool { return other.Key == m.Key })
	i := 0
	for i < len(c.Moves) && isBehind(m.Key, c.Moves[i].Key) {
		i++
	}
	c.Moves = slices.Insert(c.Moves, i, m)
}

// insert puts a cue where it stands by its number, and returns its place.
func insert(l *[]api.Cue, c api.Cue) int {
	i := 0
	for i < len(*l) && (*l)[i].Number < c.Number {
		i++
	}
	*l = slices.Insert(slices.Clone(*l), i, c)
	return i
}

// later gives a move to the cue behind the place i that a way lets look as before, if nothing moves its key up to there.
func later(l []api.Cue, i int, way int, m api.Move) {
	for j := i + 1; j < len(l); j++ {
		if _, moved := moveOf(l[j], m.Key); moved {
			return
		}
		if way == only || l[j].Block {
			put(&l[j], m)
			return
		}
	}
}

func recorded(l []api.Cue, number int, moves []api.Move, way int) []api.Cue {
	out := slices.Clone(l)
	i := placeOf(l, number)
	if i < 0 {
		i = insert(&out, plain(number))
	}
	before := slices.Clone(out)
	for _, m := range moves {
		put(&out[i], m)
		was, _ := back(before, i, m.Key)
		later(out, i, way, was)
	}
	return out
}

func deleted(l []api.Cue, number int, way int) []api.Cue {
	i := placeOf(l, number)
	out := slices.Delete(slices.Clone(l), i, i+1)
	for _, m := range l[i].Moves {
		later(out, i-1, way, m)
	}
	return out
}

func copyOfCue(l []api.Cue, from, to int) []api.Cue {
	c := l[placeOf(l, from)]
	c.Number, c.Moves = to, nil
	out := slices.Clone(l)
	i := insert(&out, c)
	for _, k := range keysIn(l) {
		was, _ := back(l, i-1, k)
		is, _ := back(l, placeOf(l, from), k)
		if was != is {
			put(&out[i], is)
			later(out, i, only, was)
		}
	}
	return out
}

// cleaned takes out what changes nothing, of the cues for which which says so.
func cleaned(l []api.Cue, which func(c api.Cue) bool) []api.Cue {
	out := slices.Clone(l)
	for i, c := range l {
		if !which(c) {
			continue
		}
		out[i].Moves = nil
		for _, m := range c.Moves {
			was, _ := back(l, i-1, m.Key)
			if m.Timed || m.Release != was.Release || m.Value != was.Value {
				out[i].Moves = append(out[i].Moves, m)
			}
		}
	}
	return out
}

func blocked(l []api.Cue, number int) []api.Cue {
	out, i := slices.Clone(l), placeOf(l, number)
	out[i].Block = true
	for _, e := range stateAt(l, i) {
		if _, moved := moveOf(l[i], e.Key); !moved {
			put(&out[i], api.Move{Key: e.Key, Value: e.Value})
		}
	}
	return out
}

func unblocked(l []api.Cue, number int) []api.Cue {
	out := cleaned(l, func(c api.Cue) bool { return c.Number == number })
	out[placeOf(l, number)].Block = false
	return out
}

// paramsOf returns the keys of a unit of the group Intensity, and the others.
func paramsOf(r api.Rig, u api.Unit) (dims, others []api.Key) {
	for _, p := range r.Library {
		for _, param := range p.Params {
			k := api.Key{Unit: u.Number, Param: param.Name}
			switch {
			case p.Name != u.Profile:
			case param.Group == api.Intensity:
				dims = append(dims, k)
			default:
				others = append(others, k)
			}
		}
	}
	return dims, others
}

// isDark says whether a unit is dark at cue number i.
func isDark(r api.Rig, presets []api.Preset, l []api.Cue, i int, u api.Unit) bool {
	dims, _ := paramsOf(r, u)
	for _, k := range dims {
		if levelAt(r, presets, l, i, k) != 0 {
			return false
		}
	}
	return len(dims) > 0
}

func marksOf(r api.Rig, presets []api.Preset, l []api.Cue) []api.Mark {
	var marks []api.Mark
	for to := 1; to < len(l); to++ {
		for _, u := range r.Units {
			if !isDark(r, presets, l, to-1, u) || isDark(r, presets, l, to, u) {
				continue
			}
			_, others := paramsOf(r, u)
			changes := slices.ContainsFunc(others, func(k api.Key) bool {
				_, moved := moveOf(l[to], k)
				return moved && levelAt(r, presets, l, to, k) != levelAt(r, presets, l, to-1, k)
			})
			// It goes on to the first cue from which on all is as it must be.
			from := 0
			for i := to - 1; i > 0; i-- {
				moves := slices.ContainsFunc(others, func(k api.Key) bool { _, moved := moveOf(l[i], k); return moved })
				if moves || !isDark(r, presets, l, i-1, u) {
					from = i
					break
				}
			}
			if changes {
				marks = append(marks, api.Mark{Unit: u.Number, From: l[from].Number, To: l[to].Number})
			}
		}
	}
	return marks
}

func markedOf(r api.Rig, presets []api.Preset, l []api.Cue) []api.Cue {
	out := slices.Clone(l)
	for _, mark := range marksOf(r, presets, l) {
		from, to := &out[placeOf(l, mark.From)], &out[placeOf(l, mark.To)]
		for _, m := range l[placeOf(l, mark.To)].Moves {
			if param, _ := paramOf(r, m.Key); m.Key.Unit == mark.Unit && param.Group != api.Intensity {
				to.Moves = slices.DeleteFunc(slices.Clone(to.Moves), func(other api.Move) bool { return other == m })
				m.Timed, m.Delay, m.Time = false, 0, 0
				put(from, m)
			}
		}
	}
	return out
}

// printed is the text of a right list.
func printed(l []api.Cue) string {
	text := ""
	time := func(n int) string { s, _ := level.ShowTime(n); return s }
	part := func(used bool, format string, value any) {
		if used {
			text += strings.ReplaceAll(format, "*", fmt.Sprint(value))
		}
	}
	for _, c := range l {
		number := strings.TrimRight(fmt.Sprintf("%d.%03d", c.Number/1000, c.Number%1000), "0")
		part(true, "cue *", strings.TrimSuffix(number, "."))
		part(c.Delay != 0, " delay *", time(c.Delay))
		part(c.Up != 0, " up *", time(c.Up))
		part(c.Down != 0, " down *", time(c.Down))
		part(c.Other != 0, " other *", time(c.Other))
		part(c.Block, " block", "")
		part(c.Follow >= 0, " follow *", time(c.Follow))
		curve, _ := level.CurveText(c.Curve)
		part(curve != "linear", " curve *", curve)
		part(c.Title != "", ` "*"`, c.Title)
		text += "\n"
		for _, m := range c.Moves {
			part(true, "  *.", m.Key.Unit)
			part(true, "* ", m.Key.Param)
			show, _ := level.Show(m.Value.Level)
			part(!m.Release && m.Value.Preset == 0, "*", show)
			part(m.Value.Preset != 0, "preset *", m.Value.Preset)
			part(m.Release, "release", "")
			part(m.Timed, " in *", time(m.Time))
			part(m.Delay != 0, " after *", time(m.Delay))
			text += "\n"
		}
	}
	return text
}

var (
	cueForm    = regexp.MustCompile(`^cue ([0-9.]+)(?: delay (\S+))?(?: up (\S+))?(?: down (\S+))?(?: other (\S+))?( block)?(?: follow (\S+))?(?: curve ([^"]+?))?(?: "(.+)")?$`)
	numberForm = regexp.MustCompile(`^(0|[1-9][0-9]{0,6})(\.[0-9]{0,2}[1-9])?$`)
	moveForm   = regexp.MustCompile(`^  (0|[1-9][0-9]{0,8})\.([a-z0-9-]+) (?:(release)|preset ([1-9][0-9]{0,8})|(\S+))(?: in (\S+)(?: after (\S+))?)?$`)
)

// reading is how the reading of a line goes.
type reading struct{ wrong bool }

// time reads a time, or returns another number if there is none.
func (r *reading) time(text string, none int) int {
	if text == "" {
		return none
	}
	n, fault := level.ReadTime(text)
	r.wrong = r.wrong || fault != api.OK || n == none
	return n
}

// readLine reads a line into a list, and says whether it can stand there.
func readLine(l *[]api.Cue, line string) bool {
	var r reading
	if f := cueForm.FindStringSubmatch(line); f != nil && numberForm.MatchString(f[1]) {
		c := plain(0)
		x, _ := strconv.ParseFloat(f[1], 64)
		c.Number = int(x*1000 + 0.5)
		c.Delay, c.Up, c.Down, c.Other = r.time(f[2], 0), r.time(f[3], 0), r.time(f[4], 0), r.time(f[5], 0)
		c.Block, c.Follow, c.Title = f[6] != "", r.time(f[7], -1), f[9]
		if f[8] != "" {
			curve, fault := level.ReadCurve(f[8])
			r.wrong = r.wrong || fault != api.OK || curve.Kind == api.CurveLinear
			c.Curve = curve
		}
		*l = append(*l, c)
		return !r.wrong
	}
	f := moveForm.FindStringSubmatch(line)
	if f == nil || len(*l) == 0 {
		return false
	}
	m := api.Move{Release: f[3] != "", Timed: f[6] != "", Time: r.time(f[6], -1), Delay: r.time(f[7], 0)}
	if !m.Timed {
		m.Time = 0
	}
	m.Key.Param = f[2]
	m.Key.Unit, _ = strconv.Atoi(f[1])
	m.Value.Preset, _ = strconv.Atoi(f[4])
	if f[5] != "" {
		n, fault := level.Read(f[5])
		r.wrong = r.wrong || fault != api.OK
		m.Value.Level = n
	}
	last := &(*l)[len(*l)-1]
	last.Moves = append(last.Moves, m)
	return !r.wrong
}

func readText(r api.Rig, presets []api.Preset, text string) ([]api.Cue, int, api.Fault) {
	if fault := pick.CheckPresets(r, presets); fault != api.OK {
		return nil, 0, fault
	}
	if len(text) > 600000 {
		return nil, 0, api.ErrLarge
	}
	var l []api.Cue
	for i, line := range strings.SplitAfter(text, "\n") {
		if line != "" && (!strings.HasSuffix(line, "\n") || !readLine(&l, line[:len(line)-1])) {
			return nil, i + 1, api.ErrSyntax
		}
	}
	if fault := listFault(r, presets, l); fault != api.OK {
		return nil, 0, fault
	}
	return l, 0, api.OK
}
