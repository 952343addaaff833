package stamp_test

import (
	"fmt"
	"math"
	"slices"
	"strings"
	"testing"

	"cyclorama/api"
	"cyclorama/stamp"
)

// all are events of all kinds, with all that they can say.
func all() []api.Event {
	return []api.Event{
		event(0, goes(1)),
		event(25, back(1)),
		event(25, jump(2, 2500)),
		event(26, pause(2)),
		event(50, resume(2)),
		event(75, release(1, 0)),
		event(75, release(1, 90500)),
		event(100, fader(1, 0)),
		event(100, fader(2, api.Full)),
		event(100, fader(2, 32768)),
		event(100, fader(2, 7)),
		event(125, grand(0)),
		event(125, grand(api.Full)),
		event(150, black(1)),
		event(2159999, black(0)),
	}
}

const allText = `00:00:00:00 go 1
00:00:01:00 back 1
00:00:01:00 jump 2 2.5
00:00:01:01 pause 2
00:00:02:00 resume 2
00:00:03:00 release 1 0
00:00:03:00 release 1 1:30.5
00:00:04:00 fader 1 out
00:00:04:00 fader 2 full
00:00:04:00 fader 2 50%
00:00:04:00 fader 2 #7
00:00:05:00 grand out
00:00:05:00 grand full
00:00:06:00 black
23:59:59:24 light
`

// rejected checks that all functions with events give a fault for a list of them, ahead of their own.
func rejected(t *testing.T, name string, s api.Setup, rate int, l []api.Event, want api.Fault) {
	t.Helper()
	same(t, "EventText: "+name, results(stamp.EventText(s, rate, l)), results("", want))
	due, fault := stamp.Due(s, rate, l, 1, 0)
	same(t, "Due: "+name, results(due, fault), results([]api.Event{}, want))
	d, fault := stamp.Run(s, rate, l, 1, 0, -1)
	same(t, "Run: "+name, results(d == nil, fault), results(true, want))
	reached, fault := stamp.Reach(s, rate, l, 1, 0)
	same(t, "Reach: "+name, results(reached, fault), results([]api.Action{}, want))
}

// TestEvents looks at the faults of lists one by one: each row changes one that is right (T3).
func TestEvents(t *testing.T) {
	rows := []struct {
		name   string
		change func(l []api.Event)
		want   api.Fault
	}{
		{"right", func(l []api.Event) {}, api.OK},
		{"at -1", func(l []api.Event) { l[0].At = -1 }, api.ErrRange},
		{"at the least number", func(l []api.Event) { l[0].At = math.MinInt }, api.ErrRange},
		{"behind the day", func(l []api.Event) { l[14].At = 2160000 }, api.ErrRange},
		{"at one frame", func(l []api.Event) { l[1].At, l[3].At = 26, 26; l[2].At = 26 }, api.OK},
		{"ahead of the event ahead", func(l []api.Event) { l[1].At = 26 }, api.ErrOrder},
		{"the last one ahead of all", func(l []api.Event) { l[14].At = 0 }, api.ErrOrder},
		{"the kind 0", func(l []api.Event) { l[0].Action.Kind = 0 }, api.ErrKind},
		{"the kind 10", func(l []api.Event) { l[0].Action.Kind = 10 }, api.ErrKind},
		{"the kind -1", func(l []api.Event) { l[0].Action.Kind = -1 }, api.ErrKind},
		{"a time", func(l []api.Event) { l[0].Action.Time = 1 }, api.ErrForm},
		{"the time of grand", func(l []api.Event) { l[12].Action.Time = -1 }, api.ErrForm},
		{"a cue of go", func(l []api.Event) { l[0].Action.Cue = 1000 }, api.ErrForm},
		{"a cue of back", func(l []api.Event) { l[1].Action.Cue = 1000 }, api.ErrForm},
		{"a cue of pause", func(l []api.Event) { l[3].Action.Cue = 1000 }, api.ErrForm},
		{"a cue of resume", func(l []api.Event) { l[4].Action.Cue = 1000 }, api.ErrForm},
		{"a cue of release", func(l []api.Event) { l[5].Action.Cue = 1000 }, api.ErrForm},
		{"a cue of fader", func(l []api.Event) { l[7].Action.Cue = 1000 }, api.ErrForm},
		{"a cue of grand", func(l []api.Event) { l[11].Action.Cue = 1000 }, api.ErrForm},
		{"a cue of black", func(l []api.Event) { l[13].Action.Cue = 1000 }, api.ErrForm},
		{"a level of go", func(l []api.Event) { l[0].Action.Level = 1 }, api.ErrForm},
		{"a level of back", func(l []api.Event) { l[1].Action.Level = 1 }, api.ErrForm},
		{"a level of jump", func(l []api.Event) { l[2].Action.Level = 1 }, api.ErrForm},
		{"a level of pause", func(l []api.Event) { l[3].Action.Level = -1 }, api.ErrForm},
		{"a level of resume", func(l []api.Event) { l[4].Action.Level = 1 }, api.ErrForm},
		{"a playback of grand", func(l []api.Event) { l[11].Action.Playback = 1 }, api.ErrForm},
		{"a playback of black", func(l []api.Event) { l[14].Action.Playback = 2 }, api.ErrForm},
		{"the playback 0", func(l []api.Event) { l[0].Action.Playback = 0 }, api.ErrNone},
		{"the playback 3", func(l []api.Event) { l[7].Action.Playback = 3 }, api.ErrNone},
		{"the playback -1", func(l []api.Event) { l[5].Action.Playback = -1 }, api.ErrNone},
		{"a jump of the playback 3", func(l []api.Event) { l[2].Action.Playback = 3 }, api.ErrNone},
		{"a jump to the cue 2", func(l []api.Event) { l[2].Action.Cue = 2000 }, api.ErrNone},
		{"a jump to the cue 0", func(l []api.Event) { l[2].Action.Cue = 0 }, api.ErrNone},
		{"a jump to a cue of another list", func(l []api.Event) { l[2].Action.Playback = 1 }, api.ErrNone},
		{"a release within -1", func(l []api.Event) { l[5].Action.Level = -1 }, api.ErrRange},
		{"a release within the greatest time", func(l []api.Event) { l[5].Action.Level = api.MaxTime }, api.OK},
		{"a release within no time", func(l []api.Event) { l[5].Action.Level = api.MaxTime + 1 }, api.ErrRange},
		{"a fader at no level", func(l []api.Event) { l[7].Action.Level = api.Full + 1 }, api.ErrRange},
		{"a fader below 0", func(l []api.Event) { l[7].Action.Level = -1 }, api.ErrRange},
		{"a grand master at no level", func(l []api.Event) { l[11].Action.Level = api.Full + 1 }, api.ErrRange},
		{"black 2", func(l []api.Event) { l[13].Action.Level = 2 }, api.ErrRange},
		{"black -1", func(l []api.Event) { l[13].Action.Level = -1 }, api.ErrRange},
		// Of two faults, the one that is named first, or that of the first event.
		{"the range ahead of the order", func(l []api.Event) { l[2].At = -1 }, api.ErrRange},
		{"the order of an event ahead of another one", func(l []api.Event) { l[0].At, l[2].At = 30, -1 }, api.ErrOrder},
		{"order ahead of the kind", func(l []api.Event) { l[2].At, l[2].Action.Kind = 24, 0 }, api.ErrOrder},
		{"the kind ahead of the form", func(l []api.Event) { l[0].Action = api.Action{Time: 1, Kind: 10} }, api.ErrKind},
		{"the form ahead of the playback", func(l []api.Event) { l[0].Action = api.Action{Kind: api.ActGo, Playback: 3, Cue: 1} }, api.ErrForm},
		{"the time ahead of the playback", func(l []api.Event) { l[0].Action = timed(1, goes(3)) }, api.ErrForm},
		{"the time ahead of the level", func(l []api.Event) { l[7].Action = timed(1, fader(1, -1)) }, api.ErrForm},
		{"the playback ahead of the level", func(l []api.Event) { l[7].Action = fader(3, -1) }, api.ErrNone},
		{"an event ahead of another one", func(l []api.Event) { l[3].Action.Kind, l[5].At = 0, 0 }, api.ErrKind},
	}
	for _, r := range rows {
		s, l := setup(t, "cue 1\n", three), all()
		r.change(l)
		same(t, r.name, stamp.CheckEvents(s, api.Rate25, l), r.want)
		same(t, "the same, by rules: "+r.name, eventsFault(s, api.Rate25, l), r.want)
		if r.want != api.OK {
			rejected(t, r.name, s, api.Rate25, l, r.want)
		}
	}
}

// TestNoEvents looks at what comes ahead of the events: the setup, then the rate, then how many there are (T3).
func TestNoEvents(t *testing.T) {
	s := setup(t, "cue 1\n")
	wrong := setup(t, "cue 1\n")
	wrong.Playbacks[0].List = 2
	many := slices.Repeat([]api.Event{event(0, goes(1))}, api.MaxEvents)
	more := append(slices.Clone(many), event(-1, goes(1)))
	same(t, "no events", stamp.CheckEvents(s, api.Rate24, nil), api.OK)
	same(t, "as many as can be", stamp.CheckEvents(s, api.Rate24, many), api.OK)
	for _, r := range []struct {
		name string
		s    api.Setup
		rate int
		l    []api.Event
		want api.Fault
	}{
		{"a setup that is wrong", wrong, api.Rate24, nil, api.ErrNone},
		{"the setup ahead of the rate", wrong, 0, more, api.ErrNone},
		{"no rate", s, 26, nil, api.ErrMode},
		{"the rate ahead of the events", s, 0, more, api.ErrMode},
		{"too many", s, api.Rate24, more, api.ErrLarge},
	} {
		same(t, r.name, stamp.CheckEvents(r.s, r.rate, r.l), r.want)
		rejected(t, r.name, r.s, r.rate, r.l, r.want)
	}
	for _, rate := range rates {
		last := []api.Event{event(days[rate]-1, goes(1))}
		same(t, fmt.Sprint("the last frame of ", rate), stamp.CheckEvents(s, rate, last), api.OK)
		same(t, fmt.Sprint("behind the last frame of ", rate), stamp.CheckEvents(s, rate, []api.Event{event(days[rate], goes(1))}), api.ErrRange)
	}
}

// TestEventTexts writes and reads events of all kinds (T3).
func TestEventTexts(t *testing.T) {
	s := setup(t, "cue 1\n", three)
	same(t, "EventText", results(stamp.EventText(s, api.Rate25, all())), results(allText, api.OK))
	l, line, fault := stamp.ReadEvents(s, api.Rate25, allText)
	same(t, "ReadEvents", results(l, line, fault), results(all(), 0, api.OK))
	same(t, "EventText of none", results(stamp.EventText(s, api.Rate25, nil)), results("", api.OK))
	l, line, fault = stamp.ReadEvents(s, api.Rate25, "")
	same(t, "ReadEvents of none", results(l, line, fault), results([]api.Event{}, 0, api.OK))
	drop := []api.Event{event(1799, goes(1)), event(1800, goes(2))}
	const text = "00:00:59;29 go 1\n00:01:00;02 go 2\n"
	same(t, "EventText of RateDrop", results(stamp.EventText(s, api.RateDrop, drop)), results(text, api.OK))
	l, line, fault = stamp.ReadEvents(s, api.RateDrop, text)
	same(t, "ReadEvents of RateDrop", results(l, line, fault), results(drop, 0, api.OK))
}

// TestCueNumbers writes and reads the numbers of cues (T3).
func TestCueNumbers(t *testing.T) {
	for text, n := range map[string]int{"1": 1000, "0.5": 500, "12.5": 12500, "0.001": 1, "9999.999": 9999999, "100.01": 100010} {
		s := setup(t, "cue "+text+"\n")
		want := []api.Event{event(0, jump(1, n))}
		l, line, fault := stamp.ReadEvents(s, api.Rate24, "00:00:00:00 jump 1 "+text+"\n")
		same(t, "ReadEvents of the cue "+text, results(l, line, fault), results(want, 0, api.OK))
		same(t, "EventText of the cue "+text, results(stamp.EventText(s, api.Rate24, want)), results("00:00:00:00 jump 1 "+text+"\n", api.OK))
	}
}

// TestOtherLevels reads levels that are not written so (T3).
func TestOtherLevels(t *testing.T) {
	s := setup(t, "cue 1\n")
	for text, n := range map[string]int{"0%": 0, "#0": 0, "100%": api.Full, "33.33%": 21843, "#65535": api.Full} {
		l, line, fault := stamp.ReadEvents(s, api.Rate24, "00:00:00:00 fader 1 "+text+"\n00:00:00:00 grand "+text+"\n")
		same(t, "ReadEvents of "+text, results(l, line, fault), results([]api.Event{event(0, fader(1, n)), event(0, grand(n))}, 0, api.OK))
	}
}

// TestLines looks at lines that cannot be read, each one behind one that can, and at what is said of the events of others (T3).
func TestLines(t *testing.T) {
	const ahead = "00:00:01:00 go 1\n"
	s := setup(t, "cue 1\n", three)
	for _, line := range []string{
		"", " ", "00:00:01:00", "00:00:01:00 ", "go 1", " 00:00:01:00 go 1", "00:00:01:00  go 1", "00:00:01:00 go 1 ", "00:00:01:00 go  1", "00:00:01:00\tgo 1",
		"0:00:01:00 go 1", "00:00:01;00 go 1", "00:00:01:25 go 1", "24:00:00:00 go 1", "00:60:00:00 go 1", "00:00:01:00 Go 1", "00:00:01:00 stop 1",
		"00:00:01:00 go", "00:00:01:00 go 01", "00:00:01:00 go +1", "00:00:01:00 go -1", "00:00:01:00 go x", "00:00:01:00 go 1 1", "00:00:01:00 go 1000000000",
		"00:00:01:00 back", "00:00:01:00 back 1 1", "00:00:01:00 pause", "00:00:01:00 pause 1 1", "00:00:01:00 resume", "00:00:01:00 resume 1 1",
		"00:00:01:00 jump", "00:00:01:00 jump 2", "00:00:01:00 jump 2 1.", "00:00:01:00 jump 2 1.0", "00:00:01:00 jump 2 2.50", "00:00:01:00 jump 2 01", "00:00:01:00 jump 2 .5", "00:00:01:00 jump 2 1.2345", "00:00:01:00 jump 2 10000000", "00:00:01:00 jump 2 1 1", "00:00:01:00 jump 2 -1",
		"00:00:01:00 release 1", "00:00:01:00 release 1 60", "00:00:01:00 release 1 1.0", "00:00:01:00 release 1 1:5", "00:00:01:00 release 1 600:00.001", "00:00:01:00 release 1 9999:00", "00:00:01:00 release 1 full", "00:00:01:00 release 1 1 1", "00:00:01:00 release 1 -1",
		"00:00:01:00 fader 1", "00:00:01:00 fader full", "00:00:01:00 fader 1 50", "00:00:01:00 fader 1 101%", "00:00:01:00 fader 1 #65536", "00:00:01:00 fader 1 Full", "00:00:01:00 fader 1 full full",
		"00:00:01:00 grand", "00:00:01:00 grand 1", "00:00:01:00 grand 1 full", "00:00:01:00 grand full full", "00:00:01:00 grand #-1",
		"00:00:01:00 black 1", "00:00:01:00 black 0", "00:00:01:00 light 1", "00:00:01:00 black ", "00:00:01:00 light ", "00:00:01:00 light light", "00:00:01:00 black light", "00:00:01:00 go light", "00:00:01:00 go 1\r", "00:00:01:00 go 1\x00",
	} {
		l, at, fault := stamp.ReadEvents(s, api.Rate25, ahead+line+"\n"+ahead)
		same(t, fmt.Sprintf("ReadEvents of %q", line), results(l, at, fault), results([]api.Event{}, 2, api.ErrSyntax))
		_, ok := readLine(api.Rate25, line)
		same(t, fmt.Sprintf("the same, by forms, of %q", line), ok, false)
	}
	for _, r := range []struct {
		text string
		line int
		want api.Fault
	}{
		{"00:00:01:00 go 1", 1, api.ErrSyntax},
		{ahead + "00:00:01:00 go 1", 2, api.ErrSyntax},
		{ahead + "\n", 2, api.ErrSyntax},
		{"\n", 1, api.ErrSyntax},
		{"00:00:01:00 go 0\n", 0, api.ErrNone},
		{"00:00:01:00 go 3\n", 0, api.ErrNone},
		{"00:00:01:00 go 999999999\n", 0, api.ErrNone},
		{"00:00:01:00 jump 1 2.5\n", 0, api.ErrNone},
		{"00:00:01:00 jump 2 0\n", 0, api.ErrNone},
		{"00:00:01:00 jump 2 9999999.999\n", 0, api.ErrNone},
		{"00:00:01:00 release 1 600:00\n00:00:00:24 go 1\n", 0, api.ErrOrder},
		// A line that cannot be read comes ahead of events that are wrong.
		{"00:00:01:00 go 3\n00:00:00:00 go\n", 2, api.ErrSyntax},
		{strings.Repeat(ahead, api.MaxEvents+1), 0, api.ErrLarge},
		{strings.Repeat(ahead, api.MaxEvents+1) + "x\n", api.MaxEvents + 2, api.ErrSyntax},
	} {
		l, line, fault := stamp.ReadEvents(s, api.Rate25, r.text)
		same(t, fmt.Sprintf("ReadEvents of %.60q", r.text), results(l, line, fault), results([]api.Event{}, r.line, r.want))
	}
	l, line, fault := stamp.ReadEvents(s, api.RateDrop, "00:00:01;00 go 1\n00:01:00;01 go 1\n")
	same(t, "ReadEvents of a frame that is left out", results(l, line, fault), results([]api.Event{}, 2, api.ErrSyntax))
	l, line, fault = stamp.ReadEvents(s, api.Rate25, strings.Repeat(ahead, api.MaxEvents))
	same(t, "ReadEvents of as many as can be", results(len(l), line, fault), results(api.MaxEvents, 0, api.OK))
}

// TestNoTexts looks at what comes ahead of the lines: the setup, then the rate, then how long the text is (T3).
func TestNoTexts(t *testing.T) {
	s, wrong := setup(t, "cue 1\n"), setup(t, "cue 1\n")
	wrong.Lists[0].Number = 0
	long := strings.Repeat("x", api.MaxListText+1)
	for _, r := range []struct {
		name string
		s    api.Setup
		rate int
		text string
		line int
		want api.Fault
	}{
		{"a setup that is wrong", wrong, api.Rate24, "", 0, api.ErrRange},
		{"the setup ahead of the rate", wrong, 0, long, 0, api.ErrRange},
		{"no rate", s, 26, "", 0, api.ErrMode},
		{"the rate ahead of the text", s, 0, long, 0, api.ErrMode},
		{"too long a text", s, api.Rate24, long, 0, api.ErrLarge},
		{"a text as long as can be", s, api.Rate24, long[1:], 1, api.ErrSyntax},
	} {
		l, line, fault := stamp.ReadEvents(r.s, r.rate, r.text)
		same(t, r.name, results(l, line, fault), results([]api.Event{}, r.line, r.want))
	}
}
