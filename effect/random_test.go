package effect_test

import (
	"fmt"
	"math"
	"math/rand/v2"
	"reflect"
	"slices"
	"strings"
	"testing"

	"cyclorama/api"
	"cyclorama/effect"
	"cyclorama/fixture"
)

// chance makes things at random, which are the same ones each time: first such that have no errors, and then it spoils them.
type chance struct{ *rand.Rand }

func newChance(seed uint64) chance { return chance{rand.New(rand.NewPCG(seed, 7))} }

func choose[T any](c chance, l ...T) T { return l[c.IntN(len(l))] }

func (c chance) level() int {
	return choose(c, 0, 0, 1, 500, 32767, 32768, 65534, api.Full, api.Full, c.IntN(api.Full+1))
}

// short is a time of which several have room within those at which tests look.
func (c chance) short() int { return choose(c, 0, 0, 1, 2, 3, 7, 10, 50, c.IntN(200)) }

func (c chance) steps() []api.EffectStep {
	l := []api.EffectStep{{Level: c.level(), Hold: 1 + c.short(), Fade: c.short()}}
	for range choose(c, 0, 1, 2, 5, 49) {
		l = append(l, api.EffectStep{Level: c.level(), Hold: c.short(), Fade: c.short()})
	}
	i, j := c.IntN(len(l)), c.IntN(len(l))
	l[i], l[j] = l[j], l[i]
	return l
}

func (c chance) effect() api.Effect {
	e := api.Effect{Form: api.FormTriangle + c.IntN(7), Low: c.level(), High: c.level(), Back: c.IntN(3) == 0, Relative: c.IntN(3) == 0}
	if e.Low > e.High {
		e.Low, e.High = e.High, e.Low
	}
	e.Spread = choose(c, 0, 0, 1, -1, 250, -500, 1000, -1000, 3333, 10000, -10000, c.IntN(20001)-10000)
	switch e.Form {
	case api.FormSteps:
		e.Steps = c.steps()
		return e
	case api.FormSquare:
		e.Width = choose(c, 0, 1, 250, 500, 999, 1000, c.IntN(1001))
	}
	e.Cycle = choose(c, 1, 2, 3, 10, 100, 333, 1000, api.MaxCycle, 1+c.IntN(2000), 1+c.IntN(api.MaxCycle))
	return e
}

// keys are some of those of a rig, in any order.
func (c chance) keys(r api.Rig) []api.Key {
	l, _ := fixture.Keys(r)
	c.Shuffle(len(l), func(i, j int) { l[i], l[j] = l[j], l[i] })
	return l[:1+c.IntN(len(l))]
}

// running is one from about a time on.
func (c chance) running(r api.Rig, from int) api.Running {
	x := api.Running{Effect: c.effect(), Keys: c.keys(r), Start: min(api.MaxTime, from+c.short()), In: choose(c, 0, 0, c.short(), api.MaxTime), End: -1}
	if c.IntN(2) == 0 {
		x.End = min(api.MaxTime, x.Start+c.short())
		x.Out = choose(c, 0, c.short(), c.short(), api.MaxTime)
	}
	at := x.Start + c.short()
	for range choose(c, 0, 0, 1, 2, 5, 50) {
		if at > api.MaxTime {
			break
		}
		x.Rates = append(x.Rates, api.Rate{Time: at, Percent: choose(c, 0, 1, 50, 100, 200, 999, 1000)})
		at += 1 + choose(c, 0, 0, 3, c.short())
	}
	return x
}

func (c chance) base(r api.Rig) []api.Setting {
	var l []api.Setting
	for _, k := range c.keys(r)[c.IntN(2):] {
		l = append(l, api.Setting{Key: k, Level: c.level()})
	}
	return l
}

// parts are the numbers, texts, switches and slices of which a value consists.
type parts struct{ numbers, texts, switches, lists []reflect.Value }

func (p *parts) add(v reflect.Value) {
	switch v.Kind() {
	case reflect.Struct:
		for i := range v.NumField() {
			p.add(v.Field(i))
		}
	case reflect.Slice:
		p.lists = append(p.lists, v)
		for i := range v.Len() {
			p.add(v.Index(i))
		}
	case reflect.Int:
		p.numbers = append(p.numbers, v)
	case reflect.String:
		p.texts = append(p.texts, v)
	case reflect.Bool:
		p.switches = append(p.switches, v)
	}
}

// spoil changes something of a value, which need not become wrong by it: to is a pointer to it.
func (c chance) spoil(to any) {
	var p parts
	p.add(reflect.ValueOf(to).Elem())
	switch n := c.IntN(10); {
	case n < 6 && len(p.numbers) > 0:
		v := choose(c, p.numbers...)
		v.SetInt(choose(c, -2, -1, 0, 1, 2, 4, 7, 8, 1000, 1001, 10001, -10001, api.Full, api.Full+1, api.MaxCycle, api.MaxCycle+1, api.MaxTime, api.MaxTime+1, math.MinInt, math.MaxInt, v.Int()-1, v.Int()+1, choose(c, p.numbers...).Int()))
	case n < 7 && len(p.switches) > 0:
		v := choose(c, p.switches...)
		v.SetBool(!v.Bool())
	case n < 8 && len(p.texts) > 0:
		v := choose(c, p.texts...)
		v.SetString(choose(c, "", "A", "dim", "pan", "tilt", choose(c, p.texts...).String()))
	case len(p.lists) > 0:
		c.spoilList(choose(c, p.lists...))
	}
}

// spoilList leaves out an element, exchanges two, doubles one, or makes a list very long.
func (c chance) spoilList(v reflect.Value) {
	if v.Len() == 0 {
		return
	}
	i, j := c.IntN(v.Len()), c.IntN(v.Len())
	switch c.IntN(4) {
	case 0:
		v.Set(reflect.AppendSlice(v.Slice(0, i), v.Slice(i+1, v.Len())))
	case 1:
		a, b := reflect.ValueOf(v.Index(i).Interface()), reflect.ValueOf(v.Index(j).Interface())
		v.Index(i).Set(b)
		v.Index(j).Set(a)
	case 2:
		v.Set(reflect.Append(v, v.Index(i)))
	case 3:
		for range 60 {
			v.Set(reflect.Append(v, v.Index(i)))
		}
	}
}

// faults counts the faults that calls gave, to know that they came at all.
type faults map[api.Fault]int

// met checks that each one of the faults came at least three times.
func (f faults) met(t *testing.T, wanted ...api.Fault) {
	t.Helper()
	for _, w := range wanted {
		if f[w] < 3 {
			t.Errorf("the fault %d came only %d times", w, f[w])
		}
	}
}

func TestRandomEffects(t *testing.T) {
	c := newChance(1)
	came := faults{}
	for range 20000 {
		e := copied(c.effect(), roomy)
		for range c.IntN(3) {
			c.spoil(&e)
		}
		want := effectFault(e)
		came[want]++
		text, period, fault := "", 0, want
		if want == api.OK {
			text = printed(e)
			same(t, "Read of "+text, results(effect.Read(text)), results(e, api.OK))
			if fault = first(rule{e.Form == api.FormChance, api.ErrKind}); fault == api.OK {
				period = cycleOf(e)
			}
		}
		same(t, "Check", effect.Check(e), want)
		same(t, "Text", results(effect.Text(e)), results(text, want))
		same(t, "Period", results(effect.Period(e)), results(period, fault))
		if t.Failed() {
			t.Fatalf("%+v", e)
		}
	}
	came.met(t, api.OK, api.ErrKind, api.ErrForm, api.ErrRange, api.ErrNone, api.ErrLarge)
}

func TestRandomTexts(t *testing.T) {
	c := newChance(2)
	came := faults{}
	pieces := []string{" ", " ", "\n", "triangle", "square", "steps", "up", " from", " to", " cycle 7", " cycle", " width 7", " width", " spread 7", " spread -7", " spread 0", " spread", " back", " relative", " out:1:1", " full:0:0", "out", "full", "50%", "100.0%", "#7", "0", "1", "-", "05", ":", "::", "x", "123456789", "\xff"}
	for range 20000 {
		text := printed(c.effect())
		for range c.IntN(4) {
			// A piece is put in, in place of some bytes.
			i := c.IntN(len(text) + 1)
			j := min(len(text), i+c.IntN(3))
			if c.IntN(2) == 0 {
				i, j = wordAt(text, i)
			}
			text = text[:i] + choose(c, pieces...) + text[j:]
		}
		e, fault := readText(text)
		came[fault]++
		same(t, fmt.Sprintf("Read(%q)", text), results(effect.Read(text)), results(e, fault))
	}
	came.met(t, api.OK, api.ErrSyntax, api.ErrForm, api.ErrRange)
}

// wordAt returns where the word of a text at a place begins, with the blank ahead of it, and where it ends.
func wordAt(text string, i int) (int, int) {
	from := max(0, strings.LastIndexByte(text[:i], ' '))
	to := strings.IndexByte(text[i:], ' ')
	if to < 0 {
		return from, len(text)
	}
	return from, i + to
}

func TestRandomWays(t *testing.T) {
	c := newChance(3)
	came := faults{}
	for range 40000 {
		e := c.effect()
		count := choose(c, 1, 2, 3, 10, 399, 400, 1+c.IntN(400))
		index := choose(c, 0, count-1, c.IntN(count))
		cycle := 100 * cycleOf(e)
		// Clocks at which something changes come often.
		clock := choose(c, 0, 1, 36000000000, 36000000000-c.IntN(1000), c.IntN(2*cycle), cycle, cycle/2, cycle/4, 3*cycle+c.IntN(3)-1, e.Width*cycle/1000, c.IntN(36000000001))
		clock += choose(c, 0, 0, 1, -1)
		if c.IntN(10) == 0 {
			c.spoil(choose(c, &index, &count, &clock))
		}
		want := first(rule{outside(count, 1, 400), api.ErrRange}, rule{outside(index, 0, count-1), api.ErrRange}, rule{outside(clock, 0, 36000000000), api.ErrRange})
		came[want]++
		n := 0
		if want == api.OK {
			n = rounded(times(rat(65535, 1), wayOf(e, index, count, clock)))
		}
		same(t, fmt.Sprintf("Way(%+v, %d, %d, %d)", e, index, count, clock), results(effect.Way(e, index, count, clock)), results(n, want))
	}
	came.met(t, api.OK, api.ErrRange)
}

// begin is where a test begins: at the first times, or close to the last ones.
func (c chance) begin() int { return choose(c, 0, 0, 1000, api.MaxTime-300) }

// when is a time of which something can change in a running effect, or another one.
func (c chance) when(x api.Running) int {
	l := []int{x.Start - 1, x.Start, x.Start + 1, x.Start + x.In, x.End - 1, x.End, x.End + 1, x.End + x.Out - 1, x.End + x.Out, x.Start + c.IntN(500), x.Start + c.IntN(500), x.Start + c.IntN(5000)}
	for _, r := range x.Rates {
		l = append(l, r.Time)
	}
	return min(max(0, choose(c, l...)), x.Start+20000, api.MaxTime)
}

func TestRandomRunnings(t *testing.T) {
	c := newChance(4)
	came := faults{}
	keys, _ := fixture.Keys(stage())
	for range 10000 {
		x := copied(c.running(stage(), c.begin()), roomy)
		time, n := c.when(x), choose(c, 0, 1, 500, 1000, api.MaxTime)
		for range c.IntN(3) {
			c.spoil(&x)
		}
		if c.IntN(8) == 0 {
			c.spoil(choose(c, &time, &n))
		}
		name := fmt.Sprintf("(%+v, %d, %d)", x, time, n)
		same(t, "CheckRunning"+name, effect.CheckRunning(stage(), x), runningFault(x, keys))
		fault := runningFault(x, nil)
		clockFault := first(rule{fault != api.OK, fault}, rule{outside(time, 0, 36000000), api.ErrRange})
		came[clockFault]++
		clock := 0
		if clockFault == api.OK && time < x.Start+50000 {
			clock = clockOf(x, time)
			same(t, "Clock"+name, results(effect.Clock(x, time)), results(clock, clockFault))
		}
		kept := slices.DeleteFunc(slices.Clone(x.Rates), func(r api.Rate) bool { return r.Time >= time })
		faster := first(rule{clockFault != api.OK, clockFault}, rule{outside(n, 0, 1000), api.ErrRange}, rule{time < x.Start, api.ErrRange}, rule{len(kept) == 50, api.ErrLarge})
		came[faster]++
		want := none[api.Running](faster)
		if faster == api.OK {
			want = results(with(x, func(x *api.Running) { x.Rates = append(kept, api.Rate{Time: time, Percent: n}) }), api.OK)
		}
		same(t, "Faster"+name, results(effect.Faster(x, time, n)), want)
		stop := first(rule{clockFault != api.OK, clockFault}, rule{time < x.Start, api.ErrRange}, rule{outside(n, 0, 36000000), api.ErrRange}, rule{x.End != -1, api.ErrState})
		came[stop]++
		want = none[api.Running](stop)
		if stop == api.OK {
			want = results(with(x, func(x *api.Running) { x.End, x.Out = time, n }), api.OK)
		}
		same(t, "Stop"+name, results(effect.Stop(x, time, n)), want)
	}
	came.met(t, api.OK, api.ErrKind, api.ErrForm, api.ErrRange, api.ErrNone, api.ErrLarge, api.ErrTwice, api.ErrOrder, api.ErrState)
}

func TestRandomSettings(t *testing.T) {
	c := newChance(5)
	came := faults{}
	r := stage()
	keys, _ := fixture.Keys(r)
	for range 6000 {
		begin := c.begin()
		var l []api.Running
		for range 1 + c.IntN(4) {
			l = append(l, c.running(r, begin))
		}
		base, time := c.base(r), c.when(choose(c, l...))
		l, base = copied(l, roomy), copied(base, roomy)
		if c.IntN(3) == 0 {
			c.spoil(choose(c, any(&l), any(&l[0]), any(&base), any(&time)))
		}
		name := fmt.Sprintf("(%+v, %+v, %d)", l, base, time)
		var rules []rule
		for _, x := range l {
			fault := runningFault(x, keys)
			rules = append(rules, rule{fault != api.OK, fault})
		}
		fault := baseFault(base, keys)
		rules = append(rules, rule{fault != api.OK, fault}, rule{outside(time, 0, 36000000), api.ErrRange})
		wanted := first(rules...)
		came[wanted]++
		want := none[[]api.Setting](wanted)
		if wanted == api.OK && time < begin+50000 {
			want = results(appliedOf(r, l, base, time), api.OK)
			for _, x := range l {
				same(t, "Settings"+name, results(effect.Settings(r, x, base, time)), results(settingsOf(r, x, base, time), api.OK))
			}
		}
		if wanted != api.OK || time < begin+50000 {
			same(t, "Apply"+name, results(effect.Apply(r, l, base, time)), want)
		}
		if t.Failed() {
			return
		}
	}
	came.met(t, api.OK, api.ErrKind, api.ErrForm, api.ErrRange, api.ErrNone, api.ErrTwice, api.ErrOrder, api.ErrLarge)
}

// TestRandomPromises looks at what the chapter says of effects that are changed, and of those that repeat themselves.
func TestRandomPromises(t *testing.T) {
	c := newChance(6)
	r := stage()
	for range 4000 {
		x := c.running(r, c.begin())
		base, time := c.base(r), c.when(x)
		name := fmt.Sprintf("of %+v on %+v", x, base)
		// alike checks that another running effect gives the same up to a time.
		alike := func(call string, y api.Running, until int) {
			t.Helper()
			for range 5 {
				at := min(until, c.when(x))
				l, fault := effect.Settings(r, x, base, at)
				same(t, fmt.Sprint(call, " at ", time, " ", name, " at ", at), results(effect.Settings(r, y, base, at)), results(l, fault))
			}
		}
		if y, fault := effect.Faster(x, time, c.IntN(1001)); fault == api.OK {
			alike("Faster", y, time)
		}
		if y, fault := effect.Stop(x, time, c.short()); fault == api.OK {
			alike("Stop", y, time-1)
			l, fault := effect.Settings(r, y, base, min(api.MaxTime, y.End+y.Out))
			same(t, "Settings at the end of "+name, results(l == nil || y.End+y.Out > api.MaxTime, fault), results(true, api.OK))
		}
		if period, fault := effect.Period(x.Effect); fault == api.OK {
			x.In, x.End, x.Out, x.Rates = 0, -1, 0, nil
			if time >= x.Start && time+period <= api.MaxTime {
				a, _ := effect.Settings(r, x, base, time)
				same(t, "Settings a period later "+name, results(effect.Settings(r, x, base, time+period)), results(a, api.OK))
			}
		}
	}
}

// TestRandomExtremes has the greatest numbers that levels are made of, and keys that are many.
func TestRandomExtremes(t *testing.T) {
	c := newChance(7)
	r, keys := crowd(400)
	for range 300 {
		x := api.Running{Effect: c.effect(), Keys: keys[:choose(c, 397, 399, 400)], In: api.MaxTime - c.IntN(100), End: choose(c, 5, 17999999), Out: api.MaxTime - c.IntN(100)}
		if x.Effect.Form != api.FormSteps {
			x.Effect.Cycle = api.MaxCycle - c.IntN(100)
		} else {
			x.Effect.Steps = []api.EffectStep{{Level: c.level(), Hold: c.IntN(100)}, {Level: c.level(), Fade: api.MaxCycle - 100}}
		}
		x.Effect.Spread = choose(c, 10000, -10000, 9973, -9973)
		x.Rates = rates(0, 1000)
		time := choose(c, api.MaxTime-c.IntN(1000), 18000000+c.IntN(1000), 6+c.IntN(18000000-6))
		i := c.IntN(len(x.Keys))
		base := []api.Setting{{Key: x.Keys[i], Level: c.level()}}
		l, fault := effect.Settings(r, x, base, time)
		want := 0
		if time < x.End+x.Out {
			want = levelOf(x, i, base[0].Level, time, 1000*time)
			same(t, fmt.Sprintf("the level %d of %+v on %d at %d", i, x.Effect, base[0].Level, time), results(l[i].Level, fault), results(want, api.OK))
		}
	}
}
