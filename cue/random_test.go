package cue_test

import (
	"fmt"
	"math"
	"math/rand/v2"
	"reflect"
	"strings"
	"testing"

	"cyclorama/api"
	"cyclorama/cue"
	"cyclorama/fixture"
)

// chance makes things at random, which are the same ones each time: first such that have no errors, and then it spoils them.
type chance struct{ *rand.Rand }

func newChance(seed uint64) chance { return chance{rand.New(rand.NewPCG(seed, 5))} }

func choose[T any](c chance, l ...T) T { return l[c.IntN(len(l))] }

func (c chance) time() int {
	return choose(c, 0, 0, 0, 1, 500, 1500, 60000, 90250, api.MaxTime, c.IntN(api.MaxTime))
}

func (c chance) curve() api.Curve {
	kind := choose(c, api.CurveLinear, api.CurveLinear, api.CurveLinear, api.CurveSlow, api.CurveFast, api.CurveSoft, api.CurveStep, api.CurveTable)
	if kind != api.CurveTable {
		return api.Curve{Kind: kind}
	}
	return api.Curve{Kind: kind, Points: []api.Point{{}, {Time: 1 + c.IntN(998), Way: c.IntN(1001)}, {Time: 1000, Way: 1000}}}
}

// value is one that a key can have: few different ones, so that many are the same.
func (c chance) value(k api.Key, presets []api.Preset) api.Value {
	p := choose(c, presets...)
	for _, s := range p.Settings {
		if s.Key == k {
			return api.Value{Preset: p.Number}
		}
	}
	return api.Value{Level: choose(c, 0, 0, 0, 7, 500, api.Full)}
}

func (c chance) move(k api.Key, presets []api.Preset) api.Move {
	m := api.Move{Key: k}
	if m.Release = c.IntN(6) == 0; !m.Release {
		m.Value = c.value(k, presets)
	}
	if m.Timed = c.IntN(5) == 0; m.Timed {
		m.Delay, m.Time = c.time(), c.time()
	}
	return m
}

// moves are moves of some keys of a rig.
func (c chance) moves(r api.Rig, presets []api.Preset) []api.Move {
	var l []api.Move
	keys, _ := fixture.Keys(r)
	often := 2 + c.IntN(8)
	for _, k := range keysIn([]api.Cue{{Moves: movesOf(keys)}}) {
		if c.IntN(often) == 0 {
			l = append(l, c.move(k, presets))
		}
	}
	return l
}

func movesOf(keys []api.Key) []api.Move {
	var l []api.Move
	for _, k := range keys {
		l = append(l, api.Move{Key: k})
	}
	return l
}

func (c chance) list(r api.Rig, presets []api.Preset) []api.Cue {
	var l []api.Cue
	number := 0
	for range c.IntN(8) {
		number += choose(c, 1, 2, 10, 500, 1000, 1000, 1000, 1000)
		one := api.Cue{Number: number, Delay: c.time(), Up: c.time(), Down: c.time(), Other: c.time(), Curve: c.curve(), Follow: choose(c, -1, -1, 0, c.time())}
		one.Title = choose(c, "", "", "A", "Dawn", `"`, `a "b" c`, "a  b", strings.Repeat("x", 60))
		one.Block = c.IntN(4) == 0
		one.Moves = c.moves(r, presets)
		l = append(l, one)
	}
	return l
}

// number is that of a cue of a list, or one beside it, or another one.
func (c chance) number(l []api.Cue) int {
	if len(l) == 0 || c.IntN(10) == 0 {
		return choose(c, -1, 0, 1, 500, 1000, 1500, api.MaxCue, api.MaxCue+1, math.MinInt, math.MaxInt)
	}
	return choose(c, l...).Number + choose(c, 0, 0, 0, 0, 0, 1, -1, 500)
}

func (c chance) way() int { return choose(c, only, only, only, track, track, track, 0, 3) }

// parts are the numbers, texts, switches and slices of which a value consists.
type parts struct{ numbers, texts, switches, lists []reflect.Value }

func (p *parts) add(v reflect.Value) {
	switch v.Kind() {
	case reflect.Struct:
		for i := range v.NumField() {
			p.add(v.Field(i))
		}
	case reflect.Slice:
		p.lists = append(p.lists, v)
		for i := range v.Len() {
			p.add(v.Index(i))
		}
	case reflect.Int:
		p.numbers = append(p.numbers, v)
	case reflect.String:
		p.texts = append(p.texts, v)
	case reflect.Bool:
		p.switches = append(p.switches, v)
	}
}

// spoil changes something of a value, which need not become wrong by it: to is a pointer to it.
func (c chance) spoil(to any) {
	var p parts
	p.add(reflect.ValueOf(to).Elem())
	switch n := c.IntN(10); {
	case n < 5 && len(p.numbers) > 0:
		v := choose(c, p.numbers...)
		v.SetInt(choose(c, -2, -1, 0, 1, 2, 7, 999, 1000, 9999, 10000, api.Full, api.Full+1, api.MaxTime, api.MaxTime+1, api.MaxCue, api.MaxCue+1, math.MinInt, math.MaxInt, v.Int()-1, v.Int()+1, choose(c, p.numbers...).Int()))
	case n < 6 && len(p.switches) > 0:
		v := choose(c, p.switches...)
		v.SetBool(!v.Bool())
	case n < 8 && len(p.texts) > 0:
		v := choose(c, p.texts...)
		v.SetString(choose(c, "", "A", "dim", "pan", "zoom", "tilt", "-", "1", " a", "a ", " ", "a\n", "\x7f", "\xe9", strings.Repeat("x", 21), strings.Repeat("x", 61), choose(c, p.texts...).String()))
	case len(p.lists) > 0:
		c.spoilList(choose(c, p.lists...))
	}
}

// spoilList leaves out an element, exchanges two, or doubles one.
func (c chance) spoilList(v reflect.Value) {
	if v.Len() == 0 {
		return
	}
	i, j := c.IntN(v.Len()), c.IntN(v.Len())
	switch c.IntN(3) {
	case 0:
		v.Set(reflect.AppendSlice(v.Slice(0, i), v.Slice(i+1, v.Len())))
	case 1:
		a, b := reflect.ValueOf(v.Index(i).Interface()), reflect.ValueOf(v.Index(j).Interface())
		v.Index(i).Set(b)
		v.Index(j).Set(a)
	case 2:
		v.Set(reflect.Append(v, v.Index(i)))
	}
}

// faults counts the faults that calls gave, to know that they came at all.
type faults map[api.Fault]int

// met checks that each one of the faults came at least three times.
func (f faults) met(t *testing.T, wanted ...api.Fault) {
	t.Helper()
	for _, w := range wanted {
		if f[w] < 3 {
			t.Errorf("the fault %d came only %d times", w, f[w])
		}
	}
}

// given is a rig, presets and a list, and whether the list is right.
type given struct {
	r       api.Rig
	presets []api.Preset
	l       []api.Cue
	form    api.Fault
	fault   api.Fault
}

// given makes some, of which often the list, and seldom the others, are spoilt.
func (c chance) given() given {
	g := given{r: stage(), presets: looks()}
	g.l = copied(c.list(g.r, g.presets), roomy)
	switch c.IntN(12) {
	case 0, 1, 2, 3:
		c.spoil(&g.l)
	case 4:
		c.spoil(&g.r)
	case 5:
		c.spoil(&g.presets)
	}
	g.form, g.fault = formFault(g.l), listFault(g.r, g.presets, g.l)
	return g
}

// wanted is the list of a change, or its fault, or that of the list's form.
func wanted(fault api.Fault, change func() []api.Cue) []any {
	if fault != api.OK {
		return none(fault)
	}
	l := change()
	if fault := formFault(l); fault != api.OK {
		return none(fault)
	}
	return results(l, api.OK)
}

func TestRandomLists(t *testing.T) {
	c := newChance(1)
	came := faults{}
	for range 3000 {
		g := c.given()
		came[g.fault]++
		name := fmt.Sprintf("(%+v, %+v, %+v)", g.r, g.presets, g.l)
		same(t, "CheckList"+name, cue.CheckList(g.r, g.presets, g.l), g.fault)
		text, marks, marked := "", []api.Mark(nil), none(g.fault)
		if g.fault == api.OK {
			text, marks = printed(g.l), marksOf(g.r, g.presets, g.l)
			marked = wanted(api.OK, func() []api.Cue { return markedOf(g.r, g.presets, g.l) })
			same(t, "Read of "+text, results(cue.Read(g.r, g.presets, text)), results(g.l, 0, api.OK))
		}
		same(t, "Text"+name, results(cue.Text(g.r, g.presets, g.l)), results(text, g.fault))
		same(t, "Marks"+name, results(cue.Marks(g.r, g.presets, g.l)), results(marks, g.fault))
		same(t, "Marked"+name, results(cue.Marked(g.r, g.presets, g.l)), marked)
	}
	came.met(t, api.OK, api.ErrRange, api.ErrOrder, api.ErrForm, api.ErrKind, api.ErrName, api.ErrNone, api.ErrTwice, api.ErrClash)
}

func TestRandomStates(t *testing.T) {
	c := newChance(2)
	came := faults{}
	for range 2000 {
		g := c.given()
		number := c.number(g.l)
		i := placeOf(g.l, number)
		name := fmt.Sprintf("(%+v, %+v, %+v, %d)", g.r, g.presets, g.l, number)
		var entries []api.Entry
		want := first(rule{g.form != api.OK, g.form}, rule{i < 0, api.ErrNone})
		if want == api.OK {
			entries = stateAt(g.l, i)
		}
		same(t, "State"+name, results(cue.State(g.l, number)), results(entries, want))
		var levels []api.Setting
		want = first(rule{g.fault != api.OK, g.fault}, rule{i < 0, api.ErrNone})
		if want == api.OK {
			keys, _ := fixture.Keys(g.r)
			for _, k := range keys {
				levels = append(levels, api.Setting{Key: k, Level: levelAt(g.r, g.presets, g.l, i, k)})
			}
		}
		came[want]++
		same(t, "Levels"+name, results(cue.Levels(g.r, g.presets, g.l, number)), results(levels, want))
	}
	came.met(t, api.OK, api.ErrRange, api.ErrOrder, api.ErrForm, api.ErrKind, api.ErrName, api.ErrNone)
}

func TestRandomChanges(t *testing.T) {
	c := newChance(3)
	came := faults{}
	for range 5000 {
		g := c.given()
		moves := copied(c.moves(g.r, g.presets), roomy)
		if c.IntN(6) == 0 {
			c.spoil(&moves)
		}
		from, to, way := c.number(g.l), c.number(g.l), c.way()
		name := fmt.Sprintf("(%+v, %d, %d, %+v, %d)", g.l, from, to, moves, way)
		form, noCue := rule{g.form != api.OK, g.form}, rule{placeOf(g.l, from) < 0, api.ErrNone}
		noWay := rule{way != only && way != track, api.ErrKind}
		noPlace := rule{outside(to, 1, 9999999), api.ErrRange}
		wrong := movesFault(moves)
		// check compares the results of a call with what is wanted.
		check := func(call string, got, want []any) {
			t.Helper()
			came[want[1].(api.Fault)]++
			same(t, call+name, got, want)
		}
		check("Record", results(cue.Record(g.l, from, moves, way)),
			wanted(first(form, rule{outside(from, 1, 9999999), api.ErrRange}, rule{wrong != api.OK, wrong}, noWay), func() []api.Cue { return recorded(g.l, from, moves, way) }))
		check("Delete", results(cue.Delete(g.l, from, way)),
			wanted(first(form, noCue, noWay), func() []api.Cue { return deleted(g.l, from, way) }))
		copies := first(form, noCue, noPlace, rule{placeOf(g.l, to) >= 0, api.ErrTwice})
		check("Copy", results(cue.Copy(g.l, from, to)), wanted(copies, func() []api.Cue { return copyOfCue(g.l, from, to) }))
		check("Shift", results(cue.Shift(g.l, from, to)), wanted(copies, func() []api.Cue { return deleted(copyOfCue(g.l, from, to), from, only) }))
		renumbered := wanted(first(form, noCue, noPlace), func() []api.Cue {
			return changed(append([]api.Cue(nil), g.l...), func(l []api.Cue) { l[placeOf(l, from)].Number = to })
		})
		check("Renumber", results(cue.Renumber(g.l, from, to)), renumbered)
		check("Clean", results(cue.Clean(g.l)), wanted(first(form), func() []api.Cue { return cleaned(g.l, func(c api.Cue) bool { return !c.Block }) }))
		check("Block", results(cue.Block(g.l, from)), wanted(first(form, noCue), func() []api.Cue { return blocked(g.l, from) }))
		check("Unblock", results(cue.Unblock(g.l, from)), wanted(first(form, noCue), func() []api.Cue { return unblocked(g.l, from) }))
	}
	came.met(t, api.OK, api.ErrRange, api.ErrOrder, api.ErrForm, api.ErrKind, api.ErrName, api.ErrNone, api.ErrTwice)
}

// values are the values of a state, without the cues that gave them.
func values(l []api.Cue, i int) []api.Entry {
	entries := stateAt(l, i)
	for i := range entries {
		entries[i].Cue = 0
	}
	return entries
}

// TestRandomPromises looks at what the chapter says changes do: which states and levels stay.
func TestRandomPromises(t *testing.T) {
	c := newChance(4)
	r, presets := stage(), looks()
	for range 2000 {
		l := c.list(r, presets)
		if len(l) == 0 {
			continue
		}
		i := c.IntN(len(l))
		number := l[i].Number
		// stay checks that all cues but some have the states that they had.
		stay := func(name string, out []api.Cue, but int) {
			t.Helper()
			for i, one := range l {
				j := placeOf(out, one.Number)
				if one.Number != but && (j < 0 || !reflect.DeepEqual(values(out, j), values(l, i))) {
					t.Errorf("%s of %d in %+v: the state at %d is another one", name, number, l, one.Number)
				}
			}
		}
		out, _ := cue.Clean(l)
		stay("Clean", out, 0)
		out, _ = cue.Block(l, number)
		stay("Block", out, 0)
		out, _ = cue.Unblock(l, number)
		stay("Unblock", out, 0)
		out, _ = cue.Delete(l, number, only)
		stay("Delete", out, number)
		out, _ = cue.Record(l, number, c.moves(r, presets), only)
		stay("Record", out, number)
		to := c.number(l)
		if copied, fault := cue.Copy(l, number, to); fault == api.OK {
			stay("Copy", copied, 0)
			same(t, "the state of the copy", values(copied, placeOf(copied, to)), values(l, i))
			out, fault = cue.Shift(l, number, to)
			same(t, "Shift", fault, api.OK)
			stay("Shift", out, number)
			same(t, "the state of what was shifted", values(out, placeOf(out, to)), values(l, i))
		}
		out, _ = cue.Marked(r, presets, l)
		for i := range l {
			for _, u := range r.Units {
				dims, others := paramsOf(r, u)
				if isDark(r, presets, l, i, u) {
					others = nil
				}
				for _, k := range append(dims, others...) {
					same(t, fmt.Sprintf("Marked of %+v: %+v in cue %d", l, k, i), levelAt(r, presets, out, i, k), levelAt(r, presets, l, i, k))
				}
			}
		}
	}
}

func TestRandomTexts(t *testing.T) {
	c := newChance(5)
	came := faults{}
	pieces := []string{" ", " ", "\n", "\n", `"`, ` "`, `" `, "cue 1\n", "cue 2", "  1.dim full\n", "  ", ".", "1.dim", " in 1", " in 0", " after 1", " after 0", " up 1", " delay 0", " block", " follow 2", " follow 0", " curve soft", " curve linear", " curve table 0:0 1000:1000", " preset 1", " preset 0", " release", "out", "full", "50%", "#7", "0", "1", "05", "1:00", "12345678", "x", "-", "\xff"}
	for range 12000 {
		text := ""
		if c.IntN(4) > 0 {
			text = printed(c.list(stage(), looks()))
		}
		for range c.IntN(4) {
			// A piece is put in, in place of some bytes.
			i := c.IntN(len(text) + 1)
			j := min(len(text), i+c.IntN(3))
			text = text[:i] + choose(c, pieces...) + text[j:]
		}
		l, line, fault := readText(stage(), looks(), text)
		came[fault]++
		same(t, fmt.Sprintf("Read(%q)", text), results(cue.Read(stage(), looks(), text)), results(l, line, fault))
	}
	came.met(t, api.OK, api.ErrSyntax, api.ErrRange, api.ErrOrder, api.ErrForm, api.ErrNone)
}
