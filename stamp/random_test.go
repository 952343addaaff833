package stamp_test

import (
	"fmt"
	"math"
	"math/rand/v2"
	"reflect"
	"strings"
	"testing"

	"cyclorama/api"
	"cyclorama/play"
	"cyclorama/stamp"
)

// chance makes things at random, which are the same ones each time: first such that have no errors, and then it spoils them.
type chance struct{ *rand.Rand }

func newChance(seed uint64) chance { return chance{rand.New(rand.NewPCG(seed, 8))} }

func choose[T any](c chance, l ...T) T { return l[c.IntN(len(l))] }

// rate is one, or rarely none.
func (c chance) rate() int {
	if c.IntN(20) == 0 {
		return choose(c, noRates...)
	}
	return choose(c, rates...)
}

// stamp is one that is right for most rates; often it is one of those that are left out, or beside them.
func (c chance) stamp() api.Stamp {
	s := at(c.IntN(24), c.IntN(60), choose(c, 0, 0, 59, c.IntN(60)), choose(c, 0, 1, 2, 23, c.IntN(30)))
	if c.IntN(10) == 0 {
		c.spoil(&s)
	}
	return s
}

// frame is a number of frames that can be one of a day.
func (c chance) frame(day int) int {
	return choose(c, 0, 1, 2, day-1, day, day+1, -1, -day, -day-1, c.IntN(day+1), c.IntN(day+1), -c.IntN(day+1), c.IntN(4000), math.MinInt, math.MaxInt)
}

// millis is a time that can be one of a day.
func (c chance) millis(rate, day int) int {
	// Shortly ahead of the end of a frame, and behind it, whether it is a whole number or not.
	edge := max(0, 1000*c.IntN(max(day, 1))/max(rate, 1))
	return choose(c, 0, 33, 34, 40, 1000, 1001, edge-1, edge, edge+1, 86399913, 86399914, 86399915, 86400000, 86400001, c.IntN(86400001), -1, math.MinInt, math.MaxInt)
}

// parts are the numbers, texts, switches and slices of which a value consists.
type parts struct{ numbers, texts, switches, lists []reflect.Value }

func (p *parts) add(v reflect.Value) {
	switch v.Kind() {
	case reflect.Struct:
		for i := range v.NumField() {
			p.add(v.Field(i))
		}
	case reflect.Slice:
		p.lists = append(p.lists, v)
		for i := range v.Len() {
			p.add(v.Index(i))
		}
	case reflect.Int:
		p.numbers = append(p.numbers, v)
	case reflect.String:
		p.texts = append(p.texts, v)
	case reflect.Bool:
		p.switches = append(p.switches, v)
	}
}

// spoil changes something of a value, which need not become wrong by it: to is a pointer to it.
func (c chance) spoil(to any) {
	var p parts
	p.add(reflect.ValueOf(to).Elem())
	switch n := c.IntN(10); {
	case n < 6 && len(p.numbers) > 0 || len(p.lists) == 0:
		v := choose(c, p.numbers...)
		v.SetInt(choose(c, -2, -1, 0, 1, 2, 3, 8, 9, 10, 23, 24, 29, 30, 59, 60, 1000, api.Full, api.Full+1, api.MaxTime, api.MaxTime+1, math.MinInt, math.MaxInt, v.Int()-1, v.Int()+1, choose(c, p.numbers...).Int()))
	case n < 7 && len(p.switches) > 0:
		v := choose(c, p.switches...)
		v.SetBool(!v.Bool())
	case n < 8 && len(p.texts) > 0:
		v := choose(c, p.texts...)
		v.SetString(choose(c, "", "A", "dim", "pan", "colour", "-", " a", strings.Repeat("x", 21), choose(c, p.texts...).String()))
	case len(p.lists) > 0:
		c.spoilList(choose(c, p.lists...))
	}
}

// spoilList leaves out an element, exchanges two, or doubles one.
func (c chance) spoilList(v reflect.Value) {
	if v.Len() == 0 {
		return
	}
	i, j := c.IntN(v.Len()), c.IntN(v.Len())
	switch c.IntN(3) {
	case 0:
		v.Set(reflect.AppendSlice(v.Slice(0, i), v.Slice(i+1, v.Len())))
	case 1:
		a, b := reflect.ValueOf(v.Index(i).Interface()), reflect.ValueOf(v.Index(j).Interface())
		v.Index(i).Set(b)
		v.Index(j).Set(a)
	case 2:
		v.Set(reflect.Append(v, v.Index(i)))
	}
}

// faults counts the faults that calls gave, to know that they came at all.
type faults map[api.Fault]int

// met checks that each one of the faults came at least three times.
func (f faults) met(t *testing.T, wanted ...api.Fault) {
	t.Helper()
	for _, w := range wanted {
		if f[w] < 3 {
			t.Errorf("the fault %d came only %d times", w, f[w])
		}
	}
}

func TestRandomStamps(t *testing.T) {
	c := newChance(1)
	came := faults{}
	for range 20000 {
		rate, s, other := c.rate(), c.stamp(), c.stamp()
		day := max(days[rate], 1)
		name := fmt.Sprint(" of ", rate, s, other)
		want := stampFault(rate, s)
		came[want]++
		same(t, "Check"+name, stamp.Check(rate, s), want)
		n, text := 0, ""
		if want == api.OK {
			n, text = numberOf(rate, s), showStamp(rate, s)
			same(t, "the number"+name, stampAt(rate, n), s)
		}
		same(t, "Number"+name, results(stamp.Number(rate, s)), results(n, want))
		same(t, "Show"+name, results(stamp.Show(rate, s)), results(text, want))
		more := c.frame(day)
		added := api.Stamp{}
		wrong := first(rule{want != api.OK, want}, rule{outside(more, -day, day), api.ErrRange})
		if wrong == api.OK {
			added = stampAt(rate, (n+more+2*day)%day)
		}
		same(t, fmt.Sprint("Add ", more, name), results(stamp.Add(rate, s, more)), results(added, wrong))
		second := stampFault(rate, other)
		wrong = first(rule{want != api.OK, want}, rule{second != api.OK, second})
		later := 0
		if wrong == api.OK {
			later = (numberOf(rate, other) + day - n) % day
		}
		same(t, "Between"+name, results(stamp.Between(rate, s, other)), results(later, wrong))
		to, turned := c.rate(), api.Stamp{}
		wrong = first(rule{!isRate(rate) || !isRate(to), api.ErrMode}, rule{want != api.OK, want})
		if wrong == api.OK {
			turned = converted(rate, to, s)
		}
		same(t, fmt.Sprint("Convert to ", to, name), results(stamp.Convert(rate, to, s)), results(turned, wrong))
		if t.Failed() {
			t.FailNow()
		}
	}
	came.met(t, api.OK, api.ErrMode, api.ErrRange, api.ErrNone)
}

func TestRandomTimes(t *testing.T) {
	c := newChance(2)
	came := faults{}
	for range 20000 {
		rate := c.rate()
		day := days[rate]
		n := c.frame(max(day, 1))
		fault := first(rule{day == 0, api.ErrMode}, rule{outside(n, 0, day), api.ErrRange})
		want := 0
		if fault == api.OK {
			want = millisOf(rate, n)
		}
		came[fault]++
		same(t, fmt.Sprint("Millis of ", rate, n), results(stamp.Millis(rate, n)), results(want, fault))
		fault, s := first(rule{day == 0, api.ErrMode}, rule{outside(n, 0, day-1), api.ErrRange}), api.Stamp{}
		if fault == api.OK {
			s = stampAt(rate, n)
		}
		same(t, fmt.Sprint("StampOf ", rate, n), results(stamp.StampOf(rate, n)), results(s, fault))
		millis := c.millis(rate, day)
		want, fault = 0, api.ErrMode
		if day > 0 {
			fault = first(rule{outside(millis, 0, millisOf(rate, day)), api.ErrRange})
		}
		if fault == api.OK {
			want = framesOf(rate, millis)
		}
		came[fault]++
		same(t, fmt.Sprint("Frames of ", rate, millis), results(stamp.Frames(rate, millis)), results(want, fault))
		if t.Failed() {
			t.FailNow()
		}
	}
	came.met(t, api.OK, api.ErrMode, api.ErrRange)
}

// spoilText changes, leaves out, or doubles some bytes of a text.
func (c chance) spoilText(text string) string {
	for range 1 + c.IntN(2) {
		i := c.IntN(len(text) + 1)
		j := min(len(text), i+choose(c, 0, 1, 1, 2, c.IntN(20)))
		text = text[:i] + choose(c, "", "0", "1", "9", "60", ":", ";", " ", "\n", ".", "%", "#", "go", "x", "\xff", text[i:j]+text[i:j]) + text[j:]
	}
	return text
}

func TestRandomTexts(t *testing.T) {
	c := newChance(3)
	came := faults{}
	for range 30000 {
		rate := c.rate()
		text := showStamp(choose(c, rate, rate, rate, c.rate()), c.stamp())
		if c.IntN(2) == 0 {
			text = c.spoilText(text)
		}
		s, fault := readStamp(rate, text)
		came[fault]++
		same(t, fmt.Sprintf("Read %d %q", rate, text), results(stamp.Read(rate, text)), results(s, fault))
	}
	came.met(t, api.OK, api.ErrMode, api.ErrSyntax, api.ErrRange, api.ErrNone)
}

// lists are some with follows, and without.
var lists = []string{
	"cue 1 up 1\n  1.dim full\ncue 2.5 down 1\n  1.dim out\ncue 3 up 1\n  1.dim 50%\n",
	"cue 1 follow 0.1\n  1.dim full\ncue 2 follow 0\n  1.pan full\ncue 3 follow 0.5\ncue 4.125\n  1.dim release\n",
	"cue 0.5 up 2 follow 1\n  1.dim preset 4\ncue 9999.999\n",
	"",
}

// setup has up to three playbacks, of which several can play one list.
func (c chance) setup(t *testing.T) api.Setup {
	s := setup(t, choose(c, lists...), choose(c, lists...), choose(c, lists...))
	s.Playbacks = s.Playbacks[:c.IntN(4)]
	for i := range s.Playbacks {
		s.Playbacks[i].Number += 10 * i
		s.Playbacks[i].List = 1 + c.IntN(3)
	}
	return s
}

func (c chance) level() int {
	return choose(c, 0, 1, 32768, 655, api.Full-1, api.Full, c.IntN(api.Full+1))
}

// action is one that a setup can have.
func (c chance) action(s api.Setup) api.Action {
	if len(s.Playbacks) == 0 {
		return choose(c, grand(c.level()), black(c.IntN(2)))
	}
	p := choose(c, s.Playbacks...)
	var cues []api.Cue
	for _, l := range s.Lists {
		if l.Number == p.List {
			cues = l.Cues
		}
	}
	if len(cues) > 0 && c.IntN(4) == 0 {
		return jump(p.Number, choose(c, cues...).Number)
	}
	return choose(c, goes(p.Number), goes(p.Number), goes(p.Number), back(p.Number), pause(p.Number), resume(p.Number), release(p.Number, choose(c, 0, 500, 60000, 90500, api.MaxTime, c.IntN(100000))), fader(p.Number, c.level()), grand(c.level()), black(c.IntN(2)))
}

// events begin anywhere in the day, and mostly follow one another shortly.
func (c chance) events(s api.Setup, rate int) []api.Event {
	var l []api.Event
	day := max(days[rate], 1)
	frame := choose(c, 0, c.IntN(day), day-1)
	for range c.IntN(12) {
		l = append(l, event(frame, c.action(s)))
		frame = min(day-1, frame+choose(c, 0, 0, 1, 2, 5, 30, c.IntN(100)))
		if c.IntN(60) == 0 {
			frame += c.IntN(day - frame)
		}
	}
	return l
}

// ends are the bounds of a stretch, mostly at events or beside them.
func (c chance) ends(rate int, l []api.Event) (from, to int) {
	day := days[rate]
	frames := []int{0, day}
	for _, e := range l {
		frames = append(frames, e.At-1, e.At, e.At+1, e.At, e.At+1)
	}
	from, to = choose(c, frames...), choose(c, frames...)
	if from > to && c.IntN(20) != 0 {
		from, to = to, from
	}
	switch c.IntN(40) {
	case 0:
		from = choose(c, -1, day+1, math.MinInt, math.MaxInt)
	case 1:
		to = choose(c, -1, day+1, math.MinInt, math.MaxInt)
	}
	return from, to
}

// TestRandomEvents checks, writes and runs events.
func TestRandomEvents(t *testing.T) {
	c := newChance(4)
	came, runs, reaches := faults{}, faults{}, faults{}
	for range 1500 {
		s, rate := c.setup(t), c.rate()
		l := c.events(s, rate)
		for range max(0, c.IntN(6)-3) {
			c.spoil(&l)
		}
		if c.IntN(40) == 0 {
			c.spoil(&s)
		}
		l = copied(l, roomy)
		name := fmt.Sprintf(" %d %+v %+v %+v", rate, l, s.Lists, s.Playbacks)
		want := eventsFault(s, rate, l)
		came[want]++
		same(t, "CheckEvents"+name, stamp.CheckEvents(s, rate, l), want)
		text := ""
		if want == api.OK {
			text = eventText(rate, l)
			read, line, fault := stamp.ReadEvents(s, rate, text)
			same(t, "ReadEvents"+name, results(read, line, fault), results(l, 0, api.OK))
		}
		same(t, "EventText"+name, results(stamp.EventText(s, rate, l)), results(text, want))
		from, to := c.ends(rate, l)
		start := choose(c, 0, 0, 0, 1, 77, 1000, api.MaxTime-1000, api.MaxTime, -1, api.MaxTime+1)
		name = fmt.Sprint(" from ", from, " to ", to, " at ", start, name)
		fault := stretchFault(s, rate, l, from, to)
		var due []api.Event
		if fault == api.OK {
			due = dueOf(l, from, to)
		}
		same(t, "Due"+name, results(stamp.Due(s, rate, l, from, to)), results(due, fault))
		agreeRuns(t, s, rate, l, [3]int{from, to, start}, name, runs)
		reached, fault := reachOf(s, rate, l, from, to)
		reaches[fault]++
		same(t, "Reach"+name, results(stamp.Reach(s, rate, l, from, to)), results(reached, fault))
		if fault == api.OK {
			arrives(t, s, rate, l, from, to, reached)
		}
		if t.Failed() {
			t.FailNow()
		}
	}
	came.met(t, api.OK, api.ErrMode, api.ErrRange, api.ErrOrder, api.ErrKind, api.ErrForm, api.ErrNone)
	runs.met(t, api.OK, api.ErrRange)
	reaches.met(t, api.OK, api.ErrRange)
}

// agreeRuns compares the actions of a run, and how it stands behind them.
func agreeRuns(t *testing.T, s api.Setup, rate int, l []api.Event, ends [3]int, name string, came faults) {
	t.Helper()
	d, fault := stamp.Run(s, rate, l, ends[0], ends[1], ends[2])
	done, want := runOf(s, rate, l, ends[0], ends[1], ends[2])
	came[want]++
	same(t, "Run"+name, results(d != nil, fault), results(want == api.OK, want))
	if d == nil || want != api.OK {
		return
	}
	same(t, "the actions of Run"+name, d.Actions(), done)
	other, _, _ := play.Replay(s, done)
	time := min(api.MaxTime, d.Time()+300)
	same(t, "Time of Run"+name, d.Time(), other.Time())
	for _, p := range s.Playbacks {
		same(t, "Standing behind Run"+name, results(d.Standing(p.Number, time)), results(other.Standing(p.Number, time)))
	}
}

// arrives checks that a new desk stands where another one stood, as soon as the actions of Reach are done.
func arrives(t *testing.T, s api.Setup, rate int, l []api.Event, from, to int, reached []api.Action) {
	t.Helper()
	done, _ := runOf(s, rate, l, from, to, 0)
	d, _, _ := play.Replay(s, done)
	n, i, fault := play.Replay(s, reached)
	same(t, "Replay of Reach", results(i, fault), results(0, api.OK))
	if n == nil {
		return
	}
	for _, p := range s.Playbacks {
		was, _ := d.Standing(p.Number, millisOf(rate, to-from))
		is, _ := n.Standing(p.Number, 0)
		same(t, fmt.Sprintf("where it stands by %+v", reached), results(is.Cue, is.Fader, is.Paused), results(was.Cue, was.Fader, was.Paused))
	}
}

// TestRandomEventTexts reads texts of events that are spoilt.
func TestRandomEventTexts(t *testing.T) {
	c := newChance(5)
	came := faults{}
	s := c.setup(t)
	for i := range 8000 {
		if i%10 == 0 {
			s = c.setup(t)
		}
		rate := c.rate()
		var text string
		if l := c.events(s, rate); isRate(rate) {
			text = eventText(rate, l)
		}
		if c.IntN(4) > 0 {
			text = c.spoilText(text)
		}
		if c.IntN(8) == 0 {
			lines := strings.SplitAfter(text, "\n")
			i, j := c.IntN(len(lines)), c.IntN(len(lines))
			lines[i], lines[j] = lines[j], lines[i]
			text = strings.Join(lines, "")
		}
		want, at, fault := readEvents(s, rate, text)
		came[fault]++
		l, line, wrong := stamp.ReadEvents(s, rate, text)
		same(t, fmt.Sprintf("ReadEvents of %d %q %+v %+v", rate, text, s.Lists, s.Playbacks), results(l, line, wrong), results(want, at, fault))
		if wrong == api.OK {
			again, fault := stamp.EventText(s, rate, l)
			back, _, _ := stamp.ReadEvents(s, rate, again)
			same(t, "what is read is written and read", results(back, fault), results(l, api.OK))
		}
		if t.Failed() {
			t.FailNow()
		}
	}
	came.met(t, api.OK, api.ErrMode, api.ErrSyntax, api.ErrOrder, api.ErrNone)
}

// TestRandomFollowers does the same with a follower and a listener.
func TestRandomFollowers(t *testing.T) {
	c := newChance(6)
	came := faults{}
	states := map[int]int{}
	jumps := map[bool]int{}
	for range 3000 {
		rate, free, jump := choose(c, rates...), choose(c, 0, 1, 2, 5, c.IntN(100), api.MaxFree), choose(c, 1, 2, 5, 1+c.IntN(100), api.MaxFree)
		f, fault := stamp.NewFollower(rate, free, jump)
		same(t, "NewFollower", fault, api.OK)
		g := &listener{rate: rate, free: free, jump: jump}
		now, frame := choose(c, 0, 0, 500, api.MaxTime-3000), choose(c, 0, c.IntN(days[rate]), days[rate]-20)
		for range c.IntN(40) {
			step := choose(c, 0, 0, 1, 33, 34, 40, 42, 100, c.IntN(2000))
			time := choose(c, now+step, now+step, now+step, now+step, now+step, now-1, -1, api.MaxTime+1)
			frame = (frame + choose(c, 0, 1, framesOf(rate, step), framesOf(rate, step)+1, c.IntN(100))) % days[rate]
			name := fmt.Sprintf(" %d of %+v", time, *g)
			var fault api.Fault
			switch c.IntN(3) {
			case 0:
				s := stampAt(rate, frame)
				if c.IntN(10) == 0 {
					s = c.stamp()
				}
				fault = g.hear(s, time)
				same(t, fmt.Sprint("Hear ", s, name), f.Hear(s, time), fault)
			case 1:
				var place, state int
				place, state, fault = g.where(time)
				states[state]++
				same(t, "Where"+name, results(f.Where(time)), results(place, state, fault))
			case 2:
				var from, to int
				var jumped bool
				from, to, jumped, fault = g.take(time)
				jumps[jumped]++
				same(t, "Take"+name, results(f.Take(time)), results(from, to, jumped, fault))
			}
			came[fault]++
			if fault == api.OK {
				now = time
			}
			if t.Failed() {
				t.FailNow()
			}
		}
	}
	came.met(t, api.OK, api.ErrRange, api.ErrOrder, api.ErrState, api.ErrNone)
	for state := api.FollowNone; state <= api.FollowLost; state++ {
		same(t, fmt.Sprint("whether the state came: ", state), states[state] > 100, true)
	}
	same(t, "whether it jumped, and did not", results(jumps[true] > 100, jumps[false] > 100), results(true, true))
}

// TestTakesAreWhole takes the frames of a timecode that is heard without gaps: each one goes by once, whenever it is asked (T6).
func TestTakesAreWhole(t *testing.T) {
	c := newChance(7)
	for range 200 {
		rate := choose(c, rates...)
		f, _ := stamp.NewFollower(rate, api.MaxFree, api.MaxFree)
		n := choose(c, 0, c.IntN(days[rate]), days[rate]-50)
		var took []int
		begin := n
		for i := range 100 {
			s, _ := stamp.StampOf(rate, (n+i)%days[rate])
			time := millisOf(rate, i)
			same(t, "Hear", f.Hear(s, time), api.OK)
			if i == 0 || c.IntN(3) == 0 {
				from, to, jumped, fault := f.Take(time)
				same(t, "Take", results(jumped, fault), results(false, api.OK))
				for frame := from; frame < to; frame++ {
					took = append(took, frame%days[rate])
				}
			}
		}
		for i, frame := range took {
			same(t, "a frame", frame, (begin+i)%days[rate])
		}
		same(t, "whether frames went by", len(took) > 50, true)
	}
}
