package level_test

import (
	"fmt"
	"slices"
	"testing"

	"cyclorama/api"
	"cyclorama/level"
)

// fades are short ones, whose times can all be looked at one by one.
func fades() []api.Fade {
	var l []api.Fade
	for _, c := range curves() {
		for _, ends := range [][2]int{{0, 0}, {0, 1}, {1, 0}, {0, 9}, {9, 0}, {3, 70}, {70, 3}, {0, api.Full}, {api.Full, 0}, {api.Full, 65000}, {5, 5}} {
			for _, times := range [][3]int{{0, 0, 0}, {7, 0, 0}, {7, 3, 0}, {0, 0, 1}, {0, 2, 1}, {4, 0, 2}, {4, 5, 7}, {10, 0, 40}, {0, 1, 101}} {
				l = append(l, api.Fade{From: ends[0], To: ends[1], Start: times[0], Delay: times[1], Time: times[2], Curve: c})
			}
		}
	}
	return l
}

func lastTime(f api.Fade) int { return f.Start + f.Delay + f.Time }

func badFades() map[string]struct {
	f    api.Fade
	want api.Fault
} {
	none := api.Curve{}
	all := map[string]struct {
		f    api.Fade
		want api.Fault
	}{
		"From -1":                    {api.Fade{From: -1, Curve: none}, api.ErrRange},
		"From too great":             {api.Fade{From: api.Full + 1, Curve: linear}, api.ErrRange},
		"To -1":                      {api.Fade{To: -1, Curve: none}, api.ErrRange},
		"To too great":               {api.Fade{To: api.Full + 1, Curve: linear}, api.ErrRange},
		"Start -1":                   {api.Fade{Start: -1, Delay: 5, Curve: none}, api.ErrRange},
		"Start too great":            {api.Fade{Start: api.MaxTime + 1, Curve: linear}, api.ErrRange},
		"Delay -1":                   {api.Fade{Start: 5, Delay: -1, Curve: linear}, api.ErrRange},
		"Delay too great":            {api.Fade{Delay: api.MaxTime + 1, Curve: linear}, api.ErrRange},
		"Time -1":                    {api.Fade{Start: 5, Time: -1, Curve: linear}, api.ErrRange},
		"Time too great":             {api.Fade{Time: api.MaxTime + 1, Curve: linear}, api.ErrRange},
		"the sum too great":          {api.Fade{Start: api.MaxTime - 2, Delay: 2, Time: 1, Curve: linear}, api.ErrRange},
		"the sum ahead of the curve": {api.Fade{Start: api.MaxTime, Delay: api.MaxTime, Time: api.MaxTime, Curve: none}, api.ErrRange},
	}
	for name, c := range badCurves() {
		all["curve: "+name] = struct {
			f    api.Fade
			want api.Fault
		}{api.Fade{To: 5, Time: 5, Curve: c.c}, c.want}
	}
	return all
}

func TestCheckFade(t *testing.T) {
	for _, f := range fades() {
		same(t, fmt.Sprint("CheckFade ", f), level.CheckFade(f), api.OK)
	}
	same(t, "the longest fade", level.CheckFade(api.Fade{From: api.Full, To: api.Full, Time: api.MaxTime, Curve: linear}), api.OK)
	same(t, "the latest fade", level.CheckFade(api.Fade{Start: api.MaxTime - 3, Delay: 2, Time: 1, Curve: linear}), api.OK)
	for name, c := range badFades() {
		same(t, name, level.CheckFade(c.f), c.want)
	}
}

func TestFadeErrorsComeFirst(t *testing.T) {
	for name, c := range badFades() {
		same(t, "At: "+name, results(level.At(c.f, -1)), results(0, c.want))
		same(t, "Ends: "+name, results(level.Ends(c.f)), results(0, c.want))
		same(t, "Reach: "+name, results(level.Reach(c.f, -1)), results(0, false, c.want))
		same(t, "Changes: "+name, results(level.Changes(c.f)), results([]api.Change{}, c.want))
		same(t, "Turn: "+name, results(level.Turn(c.f, -1, -1, -1, -1, api.Curve{Kind: 9})), results(api.Fade{}, c.want))
	}
}

func TestAt(t *testing.T) {
	for _, f := range fades() {
		for at := 0; at <= lastTime(f)+3; at++ {
			n, x := level.At(f, at)
			if n != levelOf(f, at) || x != api.OK {
				t.Fatalf("At %+v, %d: got %d %d, want %d", f, at, n, x, levelOf(f, at))
			}
		}
	}
	for _, c := range curves() {
		for _, ends := range [][2]int{{0, api.Full}, {api.Full, 0}, {1, 65534}, {65534, 1}, {300, 299}} {
			f := api.Fade{From: ends[0], To: ends[1], Start: 1, Delay: 2, Time: api.MaxTime - 3, Curve: c}
			for at := 0; at <= api.MaxTime; at += 71993 {
				same(t, fmt.Sprint("At ", f, at), results(level.At(f, at)), results(levelOf(f, at), api.OK))
			}
		}
	}
	f := api.Fade{To: 100, Start: 1000, Time: 200, Curve: linear}
	for at, want := range map[int]int{0: 0, 999: 0, 1000: 0, 1001: 1, 1002: 1, 1003: 2, 1100: 50, 1199: 100, 1200: 100, api.MaxTime: 100} {
		same(t, fmt.Sprint("At ", at), results(level.At(f, at)), results(want, api.OK))
	}
	same(t, "At", results(level.At(f, -1)), results(0, api.ErrRange))
	same(t, "At", results(level.At(f, api.MaxTime+1)), results(0, api.ErrRange))
}

func TestEnds(t *testing.T) {
	for _, f := range fades() {
		same(t, fmt.Sprint("Ends ", f), results(level.Ends(f)), results(lastTime(f), api.OK))
	}
}

// reachOf looks for the time of Reach one by one.
func reachOf(f api.Fade, n int) (int, bool) {
	for at := f.Start; at <= lastTime(f); at++ {
		has := levelOf(f, at)
		if f.To > f.From && has >= n || f.To < f.From && has <= n || f.To == f.From && has == n {
			return at, true
		}
	}
	return 0, false
}

func TestReach(t *testing.T) {
	for _, f := range fades() {
		for _, n := range []int{0, 1, 2, 3, 4, 5, 6, 8, 9, 10, 35, 36, 69, 70, 71, 30000, 64999, 65000, 65001, 65500, 65534, api.Full} {
			at, ok := reachOf(f, n)
			same(t, fmt.Sprintf("Reach %+v, %d", f, n), results(level.Reach(f, n)), results(at, ok, api.OK))
		}
	}
	f := api.Fade{To: 100, Start: 1000, Time: 200, Curve: linear}
	same(t, "Reach", results(level.Reach(f, 50)), results(1099, true, api.OK))
	same(t, "Reach of From", results(level.Reach(f, 0)), results(1000, true, api.OK))
	same(t, "Reach beyond To", results(level.Reach(f, 101)), results(0, false, api.OK))
	long := api.Fade{From: api.Full, Start: 1, Delay: 2, Time: api.MaxTime - 3, Curve: api.Curve{Kind: api.CurveStep}}
	same(t, "Reach of a step", results(level.Reach(long, 5)), results(api.MaxTime, true, api.OK))
	same(t, "Reach", results(level.Reach(f, -1)), results(0, false, api.ErrRange))
	same(t, "Reach", results(level.Reach(f, api.Full+1)), results(0, false, api.ErrRange))
}

// changesOf looks for the changes of a fade one by one.
func changesOf(f api.Fade) []api.Change {
	l := []api.Change{{Time: f.Start, Level: levelOf(f, f.Start)}}
	for at := f.Start + 1; at <= lastTime(f)+2; at++ {
		if n := levelOf(f, at); n != levelOf(f, at-1) {
			l = append(l, api.Change{Time: at, Level: n})
		}
	}
	return l
}

func changes(numbers ...int) []api.Change {
	var l []api.Change
	for i := 0; i < len(numbers); i += 2 {
		l = append(l, api.Change{Time: numbers[i], Level: numbers[i+1]})
	}
	return l
}

func TestChanges(t *testing.T) {
	for _, f := range fades() {
		same(t, fmt.Sprintf("Changes %+v", f), results(level.Changes(f)), results(changesOf(f), api.OK))
	}
	for _, c := range curves() {
		f := api.Fade{From: 200, To: 37, Start: 11, Delay: 5, Time: 2003, Curve: c}
		same(t, fmt.Sprintf("Changes %+v", f), results(level.Changes(f)), results(changesOf(f), api.OK))
	}
	same(t, "Changes", results(level.Changes(api.Fade{To: 2, Time: 4, Curve: linear})), results(changes(0, 0, 1, 1, 3, 2), api.OK))
	same(t, "Changes at once", results(level.Changes(api.Fade{From: 9, To: 4, Start: 6, Curve: linear})), results(changes(6, 4), api.OK))
	same(t, "Changes late", results(level.Changes(api.Fade{From: 9, To: 4, Start: 6, Delay: 2, Curve: linear})), results(changes(6, 9, 8, 4), api.OK))
}

func TestChangesLarge(t *testing.T) {
	for _, c := range curves() {
		if c.Kind == api.CurveStep {
			continue
		}
		f := api.Fade{From: api.MaxSteps - 1, Time: api.MaxTime, Curve: c}
		l, x := level.Changes(f)
		same(t, fmt.Sprint("as many changes as there can be: ", c), results(len(l), x, l[len(l)-1].Level), results(api.MaxSteps, api.OK, 0))
		f.From++
		l, x = level.Changes(f)
		same(t, fmt.Sprint("one more: ", c), results(len(l), x), results(0, api.ErrLarge))
	}
	step := api.Fade{To: api.Full, Time: api.MaxTime, Curve: api.Curve{Kind: api.CurveStep}}
	same(t, "Changes", results(level.Changes(step)), results(changes(0, 0, api.MaxTime, api.Full), api.OK))
}

func TestTurn(t *testing.T) {
	soft := api.Curve{Kind: api.CurveSoft}
	for _, f := range fades() {
		for _, at := range []int{0, f.Start, f.Start + 1, lastTime(f), lastTime(f) + 50} {
			want := api.Fade{From: levelOf(f, at), To: 77, Start: at, Delay: 5, Time: 100, Curve: soft}
			same(t, fmt.Sprint("Turn ", f, at), results(level.Turn(f, at, 77, 5, 100, soft)), results(want, api.OK))
		}
	}
	f := api.Fade{To: 100, Start: 1000, Time: 200, Curve: linear}
	same(t, "Turn", results(level.Turn(f, 1100, 0, 5, 100, linear)), results(api.Fade{From: 50, Start: 1100, Delay: 5, Time: 100, Curve: linear}, api.OK))
	latest := api.Fade{From: 100, To: api.Full, Start: api.MaxTime, Curve: linear}
	same(t, "Turn at the end", results(level.Turn(f, api.MaxTime, api.Full, 0, 0, linear)), results(latest, api.OK))
}

func TestTurnErrors(t *testing.T) {
	f := api.Fade{To: 100, Start: 1000, Time: 200, Curve: linear}
	wrong := api.Curve{Kind: 9}
	for _, c := range []struct {
		t, to, delay, time int
		c                  api.Curve
		want               api.Fault
	}{
		{-1, 0, 0, 0, wrong, api.ErrRange}, {api.MaxTime + 1, 0, 0, 0, linear, api.ErrRange},
		{0, -1, 0, 0, wrong, api.ErrRange}, {0, api.Full + 1, 0, 0, linear, api.ErrRange},
		{0, 0, -1, 0, wrong, api.ErrRange}, {0, 0, api.MaxTime + 1, 0, linear, api.ErrRange},
		{0, 0, 0, -1, wrong, api.ErrRange}, {0, 0, 0, api.MaxTime + 1, linear, api.ErrRange},
		{1, 0, 0, api.MaxTime, wrong, api.ErrRange}, {api.MaxTime, 0, 1, 0, linear, api.ErrRange},
		{0, 0, 0, 0, wrong, api.ErrKind}, {0, 0, 0, 0, table(0, 0), api.ErrNone}, {0, 0, 0, 0, table(0, 0, 1000, 999), api.ErrForm},
	} {
		same(t, fmt.Sprintf("Turn %+v", c), results(level.Turn(f, c.t, c.to, c.delay, c.time, c.c)), results(api.Fade{}, c.want))
	}
}

func TestTurnMemory(t *testing.T) {
	given := table(0, 0, 500, 100, 1000, 1000)
	f := api.Fade{To: 100, Time: 200, Curve: given}
	turned, x := level.Turn(f, 100, 0, 0, 100, given)
	same(t, "Turn", results(turned, x), results(api.Fade{From: 10, Start: 100, Time: 100, Curve: given}, api.OK))
	kept := slices.Clone(given.Points)
	for i := range turned.Curve.Points {
		turned.Curve.Points[i] = api.Point{}
	}
	same(t, "the curve given to Turn", given.Points, kept)
}

// TestExtremes is G1: whatever is given, there is a result.
func TestExtremes(t *testing.T) {
	for _, a := range extremes {
		level.Show(a)
		level.ShowTime(a)
		level.Octet(a)
		level.Highest([]int{a, a})
		level.CheckCurve(api.Curve{Kind: a})
		for _, b := range extremes {
			level.Scale(a, b)
			level.Mix(a, b, b, a)
			level.Spread([]int{a, b}, b)
			level.CurveText(table(0, 0, a, b, 1000, 1000))
			level.Ease(api.Curve{Kind: api.CurveSoft}, a, b)
			level.Ease(table(0, 0, 500, 1, 1000, 1000), a, b)
			level.Inverse(table(a, b, b, a))
			f := api.Fade{From: b & api.Full, To: a & api.Full, Start: a, Delay: b, Time: b, Curve: linear}
			level.At(f, a)
			level.Ends(f)
			level.Reach(f, a)
			level.Changes(f)
			level.Turn(f, b, a, b, a, linear)
			level.Turn(api.Fade{Curve: linear}, a, b, a, b, linear)
		}
	}
}
