package pick_test

import (
	"fmt"
	"math"
	"math/rand/v2"
	"reflect"
	"slices"
	"strings"
	"testing"

	"cyclorama/api"
	"cyclorama/pick"
)

// chance makes things at random, which are the same ones each time: first such that have no errors, and then it spoils them.
type chance struct{ *rand.Rand }

func newChance(seed uint64) chance { return chance{rand.New(rand.NewPCG(seed, 4))} }

// pick makes a selection of at most a number of levels, whose numbers are small, so that much of it is there.
func (c chance) pick(levels int) api.Pick {
	kind := 1 + c.IntN(9)
	if levels == 1 {
		kind = 1 + c.IntN(3)
	}
	args := func(n int) []api.Pick {
		var l []api.Pick
		for range n {
			l = append(l, c.pick(levels-1))
		}
		return l
	}
	switch kind {
	case api.PickUnits:
		return units(1+c.IntN(12), 1+c.IntN(12))
	case api.PickGroup, api.PickPreset:
		return api.Pick{Kind: kind, From: 1 + c.IntN(7)}
	case api.PickJoin:
		return join(args(2 + c.IntN(3))...)
	case api.PickLess:
		return of(kind, args(2)...)
	case api.PickEvery:
		return every(1+c.IntN(4), 1+c.IntN(4), args(1)[0])
	}
	return of(kind, args(1)...)
}

// groups makes groups that use those ahead of them alone, and presets.
func (c chance) groups() []api.Group {
	var l []api.Group
	for number := 1; number <= 7; number++ {
		if c.IntN(4) == 0 {
			continue
		}
		p := c.pick(1 + c.IntN(3))
		eachOf(&p, func(part *api.Pick) {
			if part.Kind == api.PickGroup && c.IntN(20) > 0 {
				*part = units(1+c.IntN(12), 1+c.IntN(12))
				if len(l) > 0 {
					*part = group(l[c.IntN(len(l))].Number)
				}
			}
		})
		l = append(l, api.Group{Number: number, Pick: p})
	}
	return l
}

func eachOf(p *api.Pick, do func(part *api.Pick)) {
	do(p)
	for i := range p.Args {
		eachOf(&p.Args[i], do)
	}
}

func (c chance) rig() api.Rig {
	var numbers []int
	for number := 1; number <= 12; number++ {
		if c.IntN(4) > 0 {
			numbers = append(numbers, number)
		}
	}
	return pars(numbers...)
}

// settings makes settings of a rig, of some keys several ones.
func (c chance) settings(r api.Rig) []api.Setting {
	var l []api.Setting
	for range c.IntN(20) {
		if len(r.Units) > 0 {
			param := []string{"dim", "pan"}[c.IntN(2)]
			l = append(l, setting(r.Units[c.IntN(len(r.Units))].Number, param, c.IntN(api.Full+1)))
		}
	}
	return l
}

func (c chance) title() string {
	return []string{"", "A", "Low", "A b", "~!", "Deep blue", strings.Repeat("x", 60)}[c.IntN(7)]
}

func (c chance) presets(r api.Rig) []api.Preset {
	var l []api.Preset
	for number := 1; number <= 7; number++ {
		if c.IntN(3) > 0 {
			l = append(l, api.Preset{Number: number, Title: c.title(), Settings: bySorting(c.settings(r))})
		}
	}
	return l
}

// parts are the numbers, texts and slices of which a value consists.
type parts struct{ numbers, texts, lists []reflect.Value }

func (p *parts) add(v reflect.Value) {
	switch v.Kind() {
	case reflect.Struct:
		for i := range v.NumField() {
			p.add(v.Field(i))
		}
	case reflect.Slice:
		p.lists = append(p.lists, v)
		for i := range v.Len() {
			p.add(v.Index(i))
		}
	case reflect.Int:
		p.numbers = append(p.numbers, v)
	case reflect.String:
		p.texts = append(p.texts, v)
	}
}

// spoil changes something of a value, which need not become wrong by it: to is a pointer to it.
func (c chance) spoil(to any) {
	var p parts
	p.add(reflect.ValueOf(to).Elem())
	choose := func(l []reflect.Value) reflect.Value { return l[c.IntN(len(l))] }
	switch n := c.IntN(10); {
	case n < 6 && len(p.numbers) > 0:
		v := choose(p.numbers)
		l := []int{-1, 0, 1, 2, 3, 4, 7, 9, 10, 999, 1000, 9999, 10000, api.Full, api.Full + 1, math.MinInt, math.MaxInt, int(v.Int()) - 1, int(v.Int()) + 1, int(choose(p.numbers).Int())}
		v.SetInt(int64(l[c.IntN(len(l))]))
	case n < 7 && len(p.texts) > 0:
		v := choose(p.texts)
		l := []string{"", "A", "dim", "pan", "zoom", " a", "a ", " ", "a  b", "a\n", "\x7f", "\xe9", strings.Repeat("x", 60), strings.Repeat("x", 61), choose(p.texts).String()}
		v.SetString(l[c.IntN(len(l))])
	case len(p.lists) > 0:
		c.spoilList(choose(p.lists))
	}
}

// spoilList leaves out an element, exchanges two, or doubles one.
func (c chance) spoilList(v reflect.Value) {
	if v.Len() == 0 {
		return
	}
	i, j := c.IntN(v.Len()), c.IntN(v.Len())
	switch c.IntN(3) {
	case 0:
		v.Set(reflect.AppendSlice(v.Slice(0, i), v.Slice(i+1, v.Len())))
	case 1:
		a, b := reflect.ValueOf(v.Index(i).Interface()), reflect.ValueOf(v.Index(j).Interface())
		v.Index(i).Set(b)
		v.Index(j).Set(a)
	case 2:
		v.Set(reflect.Append(v, v.Index(i)))
	}
}

// faults counts the faults that calls gave, to know that they came at all.
type faults map[api.Fault]int

// met checks that each one of the faults came at least three times.
func (f faults) met(t *testing.T, wanted ...api.Fault) {
	t.Helper()
	for _, w := range wanted {
		if f[w] < 3 {
			t.Errorf("the fault %d came only %d times", w, f[w])
		}
	}
}

func TestRandomPicks(t *testing.T) {
	c := newChance(1)
	came := faults{}
	for range 6000 {
		p := roomy(nest(c.IntN(9), c.pick(1+c.IntN(6))))
		if c.IntN(2) == 0 {
			c.spoil(&p)
		}
		want := pickFault(p)
		came[want]++
		same(t, fmt.Sprintf("Check(%+v)", p), pick.Check(p), want)
		text, fault := pick.Print(p)
		same(t, fmt.Sprintf("the fault of Print(%+v)", p), fault, want)
		if want == api.OK {
			same(t, fmt.Sprintf("Print(%+v)", p), text, printed(p))
			same(t, "Parse of "+text, results(pick.Parse(text)), results(p, 0, api.OK))
		}
	}
	came.met(t, api.OK, api.ErrLarge, api.ErrKind, api.ErrForm, api.ErrRange)
}

// TestRandomBrackets puts blanks and needless brackets into texts.
func TestRandomBrackets(t *testing.T) {
	c := newChance(2)
	for range 3000 {
		p := c.pick(1 + c.IntN(5))
		if size(p) > 200 {
			continue
		}
		text := printedWith(p, func(text string) string {
			for c.IntN(3) == 0 {
				text = "(" + text + ")"
			}
			return text
		})
		text = c.blanks(text)
		if len(text) <= api.MaxPickText {
			same(t, "Parse of "+text, results(pick.Parse(text)), results(p, 0, api.OK))
		}
	}
}

// blanks puts more blanks into a text, and takes out those that it needs not.
func (c chance) blanks(text string) string {
	s := ""
	for i, b := range []byte(text) {
		needed := b != ' ' || i > 0 && isRow(text[i-1]) && isRow(text[i+1])
		if needed || c.IntN(2) == 0 {
			s += string(b)
		}
		if b == ' ' || !isRow(b) {
			s += strings.Repeat(" ", max(0, c.IntN(6)-3))
		}
	}
	return s
}

func TestRandomTexts(t *testing.T) {
	c := newChance(3)
	came := faults{}
	pieces := []string{" ", " ", " ", "(", ")", "(", ")", " + ", " - ", "+", "-", "odd ", "even ", "back ", "every 2 from 3 ", "every", "from", "thru", " thru ", "group ", "preset 1", "group 2", "1", "2 thru 3", "4", "5", "07", "1000000000", "999999999", "x", "A", "\n", "\xff", "\u00e9"}
	for range 40000 {
		text := ""
		if c.IntN(2) == 0 {
			text = c.blanks(printed(c.pick(1 + c.IntN(3))))
		}
		for range c.IntN(4) {
			// A piece is put in, in place of some bytes.
			i := c.IntN(len(text) + 1)
			j := min(len(text), i+c.IntN(3))
			text = text[:i] + pieces[c.IntN(len(pieces))] + text[j:]
		}
		p, place, fault := readText(text)
		came[fault]++
		same(t, fmt.Sprintf("Parse(%q)", text), results(pick.Parse(text)), results(p, place, fault))
	}
	came.met(t, api.OK, api.ErrSyntax, api.ErrRange)
}

// TestRandomNesting has texts with about as many brackets and prefixes as there can be.
func TestRandomNesting(t *testing.T) {
	c := newChance(4)
	came := faults{}
	openers := []string{"(", "odd ", "even ", "back ", "every 1 from 2 ", "(1+", "(1-", "every x", "odd"}
	for range 3000 {
		text := ""
		for range 90 + c.IntN(20) {
			n := len(openers)
			if c.IntN(30) > 0 {
				n -= 2
			}
			text += openers[c.IntN(n)]
		}
		text += "1" + strings.Repeat(")", c.IntN(60)) + []string{"", "+((((1))))", "?", "-odd odd("}[c.IntN(4)]
		p, place, fault := readText(text)
		came[fault]++
		same(t, fmt.Sprintf("Parse(%q)", text), results(pick.Parse(text)), results(p, place, fault))
	}
	came.met(t, api.ErrLarge, api.ErrSyntax)
}

func TestRandomGroups(t *testing.T) {
	c := newChance(5)
	came := faults{}
	for range 6000 {
		l := roomy(c.groups())
		if c.IntN(2) == 0 {
			c.spoil(&l)
		}
		want := groupsFault(l)
		came[want]++
		same(t, fmt.Sprintf("CheckGroups(%+v)", l), pick.CheckGroups(l), want)
		number := c.IntN(9)
		var users []int
		if want == api.OK {
			u := uses(l)
			there := false
			for _, g := range l {
				there = there || g.Number == number
				if u[[2]int{g.Number, number}] {
					users = append(users, g.Number)
				}
			}
			if !there {
				want = api.ErrNone
			}
		}
		same(t, fmt.Sprintf("Uses(%+v, %d)", l, number), results(pick.Uses(l, number)), results(users, want))
	}
	came.met(t, api.OK, api.ErrKind, api.ErrForm, api.ErrRange, api.ErrOrder, api.ErrNone, api.ErrLoop)
}

func TestRandomUnits(t *testing.T) {
	c := newChance(6)
	came := faults{}
	for range 6000 {
		r := c.rig()
		groups, presets, p := roomy(c.groups()), roomy(c.presets(r)), roomy(c.pick(1+c.IntN(5)))
		switch c.IntN(8) {
		case 0:
			c.spoil(&r)
		case 1:
			c.spoil(&presets)
		case 2:
			c.spoil(&groups)
		case 3:
			c.spoil(&p)
		}
		want := presetsFault(r, presets)
		same(t, fmt.Sprintf("CheckPresets(%+v, %+v)", r, presets), pick.CheckPresets(r, presets), want)
		for _, fault := range []api.Fault{groupsFault(groups), pickFault(p)} {
			if want == api.OK {
				want = fault
			}
		}
		var l []int
		if want == api.OK {
			found, all := unitsOf(r, groups, presets, p)
			if l = found; !all {
				l, want = nil, api.ErrNone
			}
		}
		came[want]++
		same(t, fmt.Sprintf("Units(%+v, %+v, %+v, %+v)", r, groups, presets, p), results(pick.Units(r, groups, presets, p)), results(l, want))
	}
	came.met(t, api.OK, api.ErrKind, api.ErrForm, api.ErrRange, api.ErrOrder, api.ErrNone, api.ErrClash, api.ErrLoop)
}

func TestRandomFans(t *testing.T) {
	c := newChance(7)
	for range 4000 {
		f := api.Fan{Block: 1 + c.IntN(8), Wings: 1 + c.IntN(8)}
		if c.IntN(8) == 0 {
			f.Block = api.MaxUnit - c.IntN(2)
			f.Wings = api.MaxWings - c.IntN(2)
		}
		for range 1 + c.IntN(5) {
			f.Corners = append(f.Corners, c.IntN(api.Full+1))
		}
		n := c.IntN(20)
		if c.IntN(8) == 0 {
			n = api.MaxUnits - c.IntN(3)
		}
		want := fanned(f, n)
		same(t, fmt.Sprintf("Levels(%+v, %d)", f, n), results(pick.Levels(f, n)), results(want, api.OK))
		r := pars(upTo(n)...)
		l := c.Perm(n)
		var settings []api.Setting
		for i, at := range l {
			l[i] = at + 1
			settings = append(settings, setting(at+1, "pan", want[i]))
		}
		same(t, fmt.Sprintf("Spread of %+v over %v", f, l), results(pick.Spread(r, l, "pan", f)), results(settings, api.OK))
	}
}

func TestRandomRecords(t *testing.T) {
	c := newChance(8)
	came := faults{}
	for range 6000 {
		r := c.rig()
		presets, l, number, title, merge := roomy(c.presets(r)), c.settings(r), 1+c.IntN(9), c.title(), c.IntN(2) == 0
		if c.IntN(3) == 0 {
			c.spoil(&l)
		}
		if c.IntN(6) == 0 {
			c.spoil(&presets)
		}
		same(t, fmt.Sprintf("Sorted(%+v)", l), results(pick.Sorted(l)), results(bySorting(l), api.OK))
		want, keys := presetsFault(r, presets), keysOf(r)
		for _, s := range l {
			if want == api.OK && !slices.Contains(keys, s.Key) {
				want = api.ErrNone
			}
			if want == api.OK && (s.Level < 0 || s.Level > 65535) {
				want = api.ErrRange
			}
		}
		came[want]++
		var out []api.Preset
		if want == api.OK {
			out = recorded(presets, number, title, l, merge)
			same(t, "CheckPresets of what is recorded", pick.CheckPresets(r, out), api.OK)
		}
		name := fmt.Sprintf("Record(%+v, %+v, %d, %q, %+v, %t)", r, presets, number, title, l, merge)
		same(t, name, results(pick.Record(r, presets, number, title, l, merge)), results(out, want))
	}
	came.met(t, api.OK, api.ErrNone, api.ErrRange, api.ErrForm, api.ErrOrder)
}

func TestRandomLevels(t *testing.T) {
	c := newChance(9)
	came := faults{}
	for range 4000 {
		r := pars(upTo(3)...)
		presets := c.presets(r)
		c.Shuffle(len(presets), func(i, j int) { presets[i], presets[j] = presets[j], presets[i] })
		if c.IntN(2) == 0 {
			c.spoil(&presets)
		}
		k, v := setting(1+c.IntN(4), []string{"dim", "pan", "zoom"}[c.IntN(3)], 0).Key, api.Value{Preset: c.IntN(9)}
		if c.IntN(3) == 0 {
			v = api.Value{Level: []int{0, 1, api.Full, api.Full + 1, -1}[c.IntN(5)], Preset: c.IntN(2) * c.IntN(9)}
		}
		n, want := levelOf(presets, k, v)
		came[want]++
		same(t, fmt.Sprintf("Level(%+v, %+v, %+v)", presets, k, v), results(pick.Level(presets, k, v)), results(n, want))
	}
	came.met(t, api.OK, api.ErrForm, api.ErrRange, api.ErrNone)
}

// levelOf is the rule of Level.
func levelOf(presets []api.Preset, k api.Key, v api.Value) (int, api.Fault) {
	if v.Level != 0 && v.Preset != 0 {
		return 0, api.ErrForm
	}
	if v.Level < 0 || v.Level > 65535 {
		return 0, api.ErrRange
	}
	if v.Preset == 0 {
		return v.Level, api.OK
	}
	i := slices.IndexFunc(presets, func(p api.Preset) bool { return p.Number == v.Preset })
	if i < 0 {
		return 0, api.ErrNone
	}
	j := slices.IndexFunc(presets[i].Settings, func(s api.Setting) bool { return s.Key == k })
	if j < 0 {
		return 0, api.ErrNone
	}
	return presets[i].Settings[j].Level, api.OK
}
