package stamp_test

import (
	"fmt"
	"math/big"
	"regexp"
	"slices"
	"strconv"
	"strings"

	"cyclorama/api"
	"cyclorama/level"
	"cyclorama/play"
)

// The rules of the chapter, written down a second time: with a walk minute by minute, with fractions, and with all that a follower heard.

type rule struct {
	broken bool
	fault  api.Fault
}

// first returns the fault of the first rule that is broken.
func first(rules ...rule) api.Fault {
	for _, r := range rules {
		if r.broken {
			return r.fault
		}
	}
	return api.OK
}

func outside(n, least, most int) bool { return n < least || n > most }

func isRate(rate int) bool { return slices.Contains(rates, rate) }

func fps(rate int) int {
	if rate == api.RateDrop {
		return 30
	}
	return rate
}

func isLeftOut(rate int, s api.Stamp) bool {
	return rate == api.RateDrop && s.Frames < 2 && s.Seconds == 0 && s.Minutes%10 > 0
}

func stampFault(rate int, s api.Stamp) api.Fault {
	return first(
		rule{!isRate(rate), api.ErrMode},
		rule{outside(s.Hours, 0, 23), api.ErrRange},
		rule{outside(s.Minutes, 0, 59), api.ErrRange},
		rule{outside(s.Seconds, 0, 59), api.ErrRange},
		rule{outside(s.Frames, 0, fps(rate)-1), api.ErrRange},
		rule{isLeftOut(rate, s), api.ErrNone},
	)
}

// leftOut is how many frames a minute of the day has not.
func leftOut(rate, minute int) int {
	if rate == api.RateDrop && minute%10 != 0 {
		return 2
	}
	return 0
}

// numberOf counts the frames ahead of a stamp minute by minute.
func numberOf(rate int, s api.Stamp) int {
	n := 0
	minutes := 60*s.Hours + s.Minutes
	for m := range minutes {
		n += 60*fps(rate) - leftOut(rate, m)
	}
	return n + s.Seconds*fps(rate) + s.Frames - leftOut(rate, minutes)
}

// stampAt goes to the stamp with a number minute by minute.
func stampAt(rate, n int) api.Stamp {
	minute := 0
	for n >= 60*fps(rate)-leftOut(rate, minute) {
		n -= 60*fps(rate) - leftOut(rate, minute)
		minute++
	}
	n += leftOut(rate, minute)
	return at(minute/60, minute%60, n/fps(rate), n%fps(rate))
}

// oneFrame is how many milliseconds a frame lasts.
func oneFrame(rate int) *big.Rat {
	if rate == api.RateDrop {
		return big.NewRat(1001, 30)
	}
	return big.NewRat(1000, int64(rate))
}

// floor is the greatest whole number that is not greater than a fraction from 0 on.
func floor(r *big.Rat) int { return int(new(big.Int).Quo(r.Num(), r.Denom()).Int64()) }

func exactMillis(rate, n int) *big.Rat {
	return new(big.Rat).Mul(oneFrame(rate), big.NewRat(int64(n), 1))
}

func millisOf(rate, n int) int {
	return floor(new(big.Rat).Add(exactMillis(rate, n), big.NewRat(1, 2)))
}

func framesOf(rate, millis int) int {
	return floor(new(big.Rat).Quo(big.NewRat(int64(millis), 1), oneFrame(rate)))
}

func converted(from, to int, s api.Stamp) api.Stamp {
	time := exactMillis(from, numberOf(from, s))
	return stampAt(to, floor(time.Quo(time, oneFrame(to)))%days[to])
}

func showStamp(rate int, s api.Stamp) string {
	mark := ":"
	if rate == api.RateDrop {
		mark = ";"
	}
	return fmt.Sprintf("%02d:%02d:%02d%s%02d", s.Hours, s.Minutes, s.Seconds, mark, s.Frames)
}

var stampForm = regexp.MustCompile(`^(\d\d):(\d\d):(\d\d)([:;])(\d\d)$`)

// readStamp returns the stamp of a text, and the fault of Read.
func readStamp(rate int, text string) (api.Stamp, api.Fault) {
	parts := stampForm.FindStringSubmatch(text)
	if !isRate(rate) || parts == nil || strings.HasSuffix(text, "\n") || (parts[4] == ";") != (rate == api.RateDrop) {
		return api.Stamp{}, first(rule{!isRate(rate), api.ErrMode}, rule{true, api.ErrSyntax})
	}
	s := at(number(parts[1]), number(parts[2]), number(parts[3]), number(parts[5]))
	if fault := stampFault(rate, s); fault != api.OK {
		return api.Stamp{}, fault
	}
	return s, api.OK
}

func number(digits string) int {
	n, _ := strconv.Atoi(digits)
	return n
}

// usesOf are the fields that an action of a kind uses, beside Kind.
var usesOf = map[int]string{1: "p", 2: "p", 3: "pc", 4: "p", 5: "p", 6: "pl", 7: "pl", 8: "l", 9: "l"}

// mostOf is the greatest Level of a kind.
var mostOf = map[int]int{6: 36000000, 7: 65535, 8: 65535, 9: 1}

func actionFault(s api.Setup, a api.Action) api.Fault {
	uses := usesOf[a.Kind]
	isOf := func(field string, n int) bool { return n == 0 || strings.Contains(uses, field) }
	var played *api.Playback
	for _, p := range s.Playbacks {
		if p.Number == a.Playback {
			played = &p
		}
	}
	hasCue := func() bool {
		for _, l := range s.Lists {
			if l.Number == played.List {
				return slices.ContainsFunc(l.Cues, func(c api.Cue) bool { return c.Number == a.Cue })
			}
		}
		return false
	}
	return first(
		rule{uses == "", api.ErrKind},
		rule{!isOf("p", a.Playback) || !isOf("c", a.Cue) || !isOf("l", a.Level) || a.Time != 0, api.ErrForm},
		rule{strings.Contains(uses, "p") && played == nil, api.ErrNone},
		rule{outside(a.Level, 0, mostOf[a.Kind]), api.ErrRange},
		rule{a.Kind == 3 && played != nil && !hasCue(), api.ErrNone},
	)
}

// eventsFault is the fault of CheckEvents.
func eventsFault(s api.Setup, rate int, l []api.Event) api.Fault {
	setup := play.CheckSetup(s)
	fault := first(rule{setup != api.OK, setup}, rule{!isRate(rate), api.ErrMode}, rule{len(l) > 2000, api.ErrLarge})
	for i, e := range l {
		if fault != api.OK {
			break
		}
		action := actionFault(s, e.Action)
		fault = first(
			rule{outside(e.At, 0, days[rate]-1), api.ErrRange},
			rule{i > 0 && e.At < l[max(0, i-1)].At, api.ErrOrder},
			rule{action != api.OK, action},
		)
	}
	return fault
}

func stretchFault(s api.Setup, rate int, l []api.Event, from, to int) api.Fault {
	events := eventsFault(s, rate, l)
	return first(rule{events != api.OK, events}, rule{from < 0 || to < from || to > days[rate], api.ErrRange})
}

// eventText is the text of events that are right.
func eventText(rate int, l []api.Event) string {
	text := ""
	for _, e := range l {
		a := e.Action
		levels, _ := level.Show(min(a.Level, api.Full))
		times, _ := level.ShowTime(a.Level)
		cues := strings.TrimRight(strings.TrimRight(fmt.Sprintf("%d.%03d", a.Cue/1000, a.Cue%1000), "0"), ".")
		words := []string{
			1: fmt.Sprint("go ", a.Playback), 2: fmt.Sprint("back ", a.Playback), 3: fmt.Sprint("jump ", a.Playback, " ", cues),
			4: fmt.Sprint("pause ", a.Playback), 5: fmt.Sprint("resume ", a.Playback), 6: fmt.Sprint("release ", a.Playback, " ", times),
			7: fmt.Sprint("fader ", a.Playback, " ", levels), 8: "grand " + levels, 9: []string{"light", "black"}[min(a.Level, 1)],
		}
		text += showStamp(rate, stampAt(rate, e.At)) + " " + words[a.Kind] + "\n"
	}
	return text
}

const anyNumber = `(0|[1-9]\d{0,8})`

// lineForms are the forms of lines by the kinds of actions, from 1 on, and at last that of light.
var lineForms = []*regexp.Regexp{
	regexp.MustCompile(`^(\S+) go ` + anyNumber + `$`),
	regexp.MustCompile(`^(\S+) back ` + anyNumber + `$`),
	regexp.MustCompile(`^(\S+) jump ` + anyNumber + ` ((?:0|[1-9]\d{0,6})(?:\.\d{0,2}[1-9])?)$`),
	regexp.MustCompile(`^(\S+) pause ` + anyNumber + `$`),
	regexp.MustCompile(`^(\S+) resume ` + anyNumber + `$`),
	regexp.MustCompile(`^(\S+) release ` + anyNumber + ` (\S+)$`),
	regexp.MustCompile(`^(\S+) fader ` + anyNumber + ` (\S+)$`),
	regexp.MustCompile(`^(\S+) grand() (\S+)$`),
	regexp.MustCompile(`^(\S+) black$`),
	regexp.MustCompile(`^(\S+) light$`),
}

// readLine returns the event of a line, and whether it has the form of one.
func readLine(rate int, line string) (api.Event, bool) {
	for i, form := range lineForms {
		parts := form.FindStringSubmatch(line)
		if parts == nil {
			continue
		}
		s, fault := readStamp(rate, parts[1])
		e := api.Event{Action: api.Action{Kind: min(i+1, 9)}}
		if fault == api.OK {
			e.At = numberOf(rate, s)
		}
		if i < 7 {
			e.Action.Playback = number(parts[2])
		}
		wrong := api.OK
		switch i + 1 {
		case 3:
			whole, behind, _ := strings.Cut(parts[3], ".")
			e.Action.Cue = 1000*number(whole) + number((behind + "000")[:3])
		case 6:
			e.Action.Level, wrong = level.ReadTime(parts[3])
		case 7, 8:
			e.Action.Level, wrong = level.Read(parts[3])
		case 9:
			e.Action.Level = 1
		}
		return e, fault == api.OK && wrong == api.OK
	}
	return api.Event{}, false
}

// readEvents is what ReadEvents returns.
func readEvents(s api.Setup, rate int, text string) ([]api.Event, int, api.Fault) {
	setup := play.CheckSetup(s)
	if fault := first(rule{setup != api.OK, setup}, rule{!isRate(rate), api.ErrMode}, rule{len(text) > 600000, api.ErrLarge}); fault != api.OK {
		return nil, 0, fault
	}
	lines := strings.Split(text, "\n")
	var l []api.Event
	for i, line := range lines {
		if i == len(lines)-1 && line == "" {
			break
		}
		e, ok := readLine(rate, line)
		if !ok || i == len(lines)-1 {
			return nil, i + 1, api.ErrSyntax
		}
		l = append(l, e)
	}
	if fault := eventsFault(s, rate, l); fault != api.OK {
		return nil, 0, fault
	}
	return l, 0, api.OK
}

// dueOf looks at each event by itself.
func dueOf(l []api.Event, from, to int) []api.Event {
	var due []api.Event
	for _, e := range l {
		if e.At >= from && e.At < to {
			due = append(due, e)
		}
	}
	return due
}

// runOf is the actions of Run, of which each one is tried behind those ahead of it on a desk of its own.
func runOf(s api.Setup, rate int, l []api.Event, from, to, start int) ([]api.Action, api.Fault) {
	if fault := stretchFault(s, rate, l, from, to); fault != api.OK {
		return nil, fault
	}
	due := dueOf(l, from, to)
	for _, e := range due {
		if outside(start, 0, 36000000) || outside(start+millisOf(rate, e.At-from), 0, 36000000) {
			return nil, api.ErrRange
		}
	}
	if outside(start, 0, 36000000) {
		return nil, api.ErrRange
	}
	var done []api.Action
	for _, e := range due {
		next := append(slices.Clone(done), timed(start+millisOf(rate, e.At-from), e.Action))
		if _, _, fault := play.Replay(s, next); fault == api.OK {
			done = next
		}
	}
	return done, api.OK
}

// reachOf is what Reach returns.
func reachOf(s api.Setup, rate int, l []api.Event, from, to int) ([]api.Action, api.Fault) {
	done, fault := runOf(s, rate, l, from, to, 0)
	if fault != api.OK {
		return nil, fault
	}
	time := millisOf(rate, to-from)
	if len(done) > 0 {
		time = max(time, done[len(done)-1].Time)
	}
	if time > 36000000 {
		return nil, api.ErrRange
	}
	d, _, _ := play.Replay(s, done)
	var jumps, faders, pauses, grands, blacks []api.Action
	for _, p := range s.Playbacks {
		stand, _ := d.Standing(p.Number, time)
		if stand.Cue > 0 {
			jumps = append(jumps, jump(p.Number, stand.Cue))
		}
		if stand.Fader < 65535 {
			faders = append(faders, fader(p.Number, stand.Fader))
		}
		if stand.Paused {
			pauses = append(pauses, pause(p.Number))
		}
	}
	for _, e := range dueOf(l, from, to) {
		switch e.Action.Kind {
		case 8:
			grands = []api.Action{e.Action}
		case 9:
			blacks = []api.Action{e.Action}
		}
	}
	return slices.Concat(jumps, faders, pauses, grands, blacks), api.OK
}

// listener is a follower that keeps all stamps and times, and the places that it told.
type listener struct {
	rate, free, jump int
	stamps           []api.Stamp
	times            []int
	calls            []int
	told             []int
}

func (f *listener) timeFault(t int) api.Fault {
	return first(rule{outside(t, 0, 36000000), api.ErrRange}, rule{len(f.calls) > 0 && t < slices.Max(append([]int{0}, f.calls...)), api.ErrOrder})
}

func (f *listener) hear(s api.Stamp, t int) api.Fault {
	time, stamp := f.timeFault(t), stampFault(f.rate, s)
	fault := first(rule{time != api.OK, time}, rule{stamp != api.OK, stamp})
	if fault == api.OK {
		f.stamps, f.times, f.calls = append(f.stamps, s), append(f.times, t), append(f.calls, t)
	}
	return fault
}

// place goes frame by frame from the last stamp on, as far as there is time for whole ones, and as it may.
func (f *listener) place(t int) (int, int) {
	if len(f.stamps) == 0 {
		return 0, 0
	}
	place := numberOf(f.rate, f.stamps[len(f.stamps)-1])
	gone, most := framesOf(f.rate, t-f.times[len(f.times)-1]), f.free
	if most == 0 {
		most = 1
	}
	state := 1
	for i := 1; i <= gone; i++ {
		switch {
		case i > most:
			return place, 3
		case i > 1:
			state = 2
		}
		place++
		if place == days[f.rate] {
			place = 0
		}
	}
	return place, state
}

func (f *listener) where(t int) (int, int, api.Fault) {
	if fault := f.timeFault(t); fault != api.OK {
		return 0, 0, fault
	}
	f.calls = append(f.calls, t)
	place, state := f.place(t)
	return place, state, api.OK
}

func (f *listener) take(t int) (from, to int, jumped bool, x api.Fault) {
	time := f.timeFault(t)
	if fault := first(rule{time != api.OK, time}, rule{len(f.stamps) == 0, api.ErrState}); fault != api.OK {
		return 0, 0, false, fault
	}
	place, _, _ := f.where(t)
	f.told = append(f.told, place)
	if len(f.told) == 1 {
		return place, place, false, api.OK
	}
	from = f.told[len(f.told)-2]
	for to = from; to <= from+f.jump; to++ {
		if to%days[f.rate] == place {
			return from, to, false, api.OK
		}
	}
	return place, place, true, api.OK
}
