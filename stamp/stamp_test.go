package stamp_test

import (
	"fmt"
	"math"
	"testing"

	"cyclorama/api"
	"cyclorama/stamp"
)

// days are how many frames a day of each rate has.
var days = map[int]int{api.Rate24: 2073600, api.Rate25: 2160000, api.Rate30: 2592000, api.RateDrop: 2589408}

// TestDays looks at the frames of a day (T1).
func TestDays(t *testing.T) {
	for _, rate := range rates {
		same(t, fmt.Sprint("Day of ", rate), results(stamp.Day(rate)), results(days[rate], api.OK))
	}
}

// TestChecks looks at the bounds of the parts of a stamp, and at the frames that are left out (T1): all functions with a stamp give the fault of Check.
func TestChecks(t *testing.T) {
	rows := []struct {
		rate int
		s    api.Stamp
		want api.Fault
	}{
		{api.Rate24, at(0, 0, 0, 0), api.OK},
		{api.Rate24, at(23, 59, 59, 23), api.OK},
		{api.Rate24, at(23, 59, 59, 24), api.ErrRange},
		{api.Rate25, at(23, 59, 59, 24), api.OK},
		{api.Rate25, at(0, 0, 0, 25), api.ErrRange},
		{api.Rate30, at(0, 0, 0, 29), api.OK},
		{api.Rate30, at(0, 0, 0, 30), api.ErrRange},
		{api.RateDrop, at(0, 0, 0, 29), api.OK},
		{api.RateDrop, at(0, 0, 0, 30), api.ErrRange},
		{api.Rate25, at(24, 0, 0, 0), api.ErrRange},
		{api.Rate25, at(-1, 0, 0, 0), api.ErrRange},
		{api.Rate25, at(0, 60, 0, 0), api.ErrRange},
		{api.Rate25, at(0, -1, 0, 0), api.ErrRange},
		{api.Rate25, at(0, 0, 60, 0), api.ErrRange},
		{api.Rate25, at(0, 0, -1, 0), api.ErrRange},
		{api.Rate25, at(0, 0, 0, -1), api.ErrRange},
		{api.Rate25, at(0, 0, 0, math.MinInt), api.ErrRange},
		{api.Rate25, at(math.MaxInt, 0, 0, 0), api.ErrRange},
		{api.RateDrop, at(0, 1, 0, 0), api.ErrNone},
		{api.RateDrop, at(0, 1, 0, 1), api.ErrNone},
		{api.RateDrop, at(0, 1, 0, 2), api.OK},
		{api.RateDrop, at(0, 1, 1, 0), api.OK},
		{api.RateDrop, at(0, 0, 0, 0), api.OK},
		{api.RateDrop, at(0, 0, 0, 1), api.OK},
		{api.RateDrop, at(5, 9, 0, 1), api.ErrNone},
		{api.RateDrop, at(5, 10, 0, 0), api.OK},
		{api.RateDrop, at(5, 10, 0, 1), api.OK},
		{api.RateDrop, at(5, 11, 0, 1), api.ErrNone},
		{api.RateDrop, at(23, 59, 0, 0), api.ErrNone},
		{api.RateDrop, at(23, 50, 0, 0), api.OK},
		{api.RateDrop, at(24, 1, 0, 0), api.ErrRange},
		{api.RateDrop, at(-1, 1, 0, 0), api.ErrRange},
		{api.RateDrop, at(0, 61, 0, 0), api.ErrRange},
		{api.RateDrop, at(0, 1, 0, -1), api.ErrRange},
		{api.Rate24, at(0, 1, 0, 1), api.OK},
		{api.Rate25, at(0, 1, 0, 0), api.OK},
		{api.Rate30, at(0, 1, 0, 1), api.OK},
	}
	for _, r := range rows {
		same(t, fmt.Sprint("Check ", r.rate, r.s), stamp.Check(r.rate, r.s), r.want)
		if r.want != api.OK {
			refused(t, r.rate, r.s, r.want)
		}
	}
}

// refused checks that all functions with a stamp give a fault for it, ahead of their own.
func refused(t *testing.T, rate int, s api.Stamp, want api.Fault) {
	t.Helper()
	name := fmt.Sprint(" of ", rate, s)
	same(t, "Number"+name, results(stamp.Number(rate, s)), results(0, want))
	same(t, "Show"+name, results(stamp.Show(rate, s)), results("", want))
	same(t, "Add"+name, results(stamp.Add(rate, s, 1)), results(api.Stamp{}, want))
	same(t, "Add too much"+name, results(stamp.Add(rate, s, math.MaxInt)), results(api.Stamp{}, want))
	same(t, "Between from"+name, results(stamp.Between(rate, s, at(0, 0, 0, 0))), results(0, want))
	same(t, "Between to"+name, results(stamp.Between(rate, at(0, 0, 0, 0), s)), results(0, want))
	same(t, "Convert"+name, results(stamp.Convert(rate, api.Rate25, s)), results(api.Stamp{}, want))
	f, _ := stamp.NewFollower(rate, 1, 1)
	same(t, "Hear"+name, f.Hear(s, 0), want)
}

// TestNoRates looks at numbers that are no rates, which is said ahead of all other faults (T1).
func TestNoRates(t *testing.T) {
	wrong := at(99, 1, 0, 0)
	for _, rate := range append(noRates, math.MinInt, math.MaxInt) {
		name := fmt.Sprint(" of ", rate)
		same(t, "Check"+name, results(stamp.Check(rate, at(0, 0, 0, 0)), stamp.Check(rate, wrong)), results(api.ErrMode, api.ErrMode))
		same(t, "Day"+name, results(stamp.Day(rate)), results(0, api.ErrMode))
		same(t, "Number"+name, results(stamp.Number(rate, wrong)), results(0, api.ErrMode))
		same(t, "StampOf"+name, results(stamp.StampOf(rate, -1)), results(api.Stamp{}, api.ErrMode))
		same(t, "StampOf 0"+name, results(stamp.StampOf(rate, 0)), results(api.Stamp{}, api.ErrMode))
		same(t, "Show"+name, results(stamp.Show(rate, wrong)), results("", api.ErrMode))
		same(t, "Read"+name, results(stamp.Read(rate, "x")), results(api.Stamp{}, api.ErrMode))
		same(t, "Add"+name, results(stamp.Add(rate, wrong, math.MinInt)), results(api.Stamp{}, api.ErrMode))
		same(t, "Between"+name, results(stamp.Between(rate, wrong, wrong)), results(0, api.ErrMode))
		same(t, "Millis"+name, results(stamp.Millis(rate, -1)), results(0, api.ErrMode))
		same(t, "Frames"+name, results(stamp.Frames(rate, -1)), results(0, api.ErrMode))
		same(t, "Convert from"+name, results(stamp.Convert(rate, api.Rate25, wrong)), results(api.Stamp{}, api.ErrMode))
		same(t, "Convert to"+name, results(stamp.Convert(api.Rate25, rate, wrong)), results(api.Stamp{}, api.ErrMode))
		f, fault := stamp.NewFollower(rate, -1, 0)
		same(t, "NewFollower"+name, results(f == nil, fault), results(true, api.ErrMode))
	}
}

// TestNumbers looks at numbers that are known (T1).
func TestNumbers(t *testing.T) {
	rows := []struct {
		rate int
		s    api.Stamp
		n    int
	}{
		{api.Rate24, at(0, 0, 0, 23), 23},
		{api.Rate24, at(0, 0, 1, 0), 24},
		{api.Rate25, at(1, 2, 3, 4), 93079},
		{api.Rate30, at(23, 59, 59, 29), 2591999},
		{api.RateDrop, at(0, 0, 0, 1), 1},
		{api.RateDrop, at(0, 0, 59, 29), 1799},
		{api.RateDrop, at(0, 1, 0, 2), 1800},
		{api.RateDrop, at(0, 1, 59, 29), 3597},
		{api.RateDrop, at(0, 2, 0, 2), 3598},
		{api.RateDrop, at(0, 9, 59, 29), 17981},
		{api.RateDrop, at(0, 10, 0, 0), 17982},
		{api.RateDrop, at(0, 10, 0, 1), 17983},
		{api.RateDrop, at(1, 0, 0, 0), 107892},
		{api.RateDrop, at(23, 59, 59, 29), 2589407},
	}
	for _, r := range rows {
		same(t, fmt.Sprint("Number ", r.rate, r.s), results(stamp.Number(r.rate, r.s)), results(r.n, api.OK))
		same(t, fmt.Sprint("StampOf ", r.rate, r.n), results(stamp.StampOf(r.rate, r.n)), results(r.s, api.OK))
	}
	for _, rate := range rates {
		for _, n := range []int{-1, days[rate], math.MinInt, math.MaxInt} {
			same(t, fmt.Sprint("StampOf ", rate, n), results(stamp.StampOf(rate, n)), results(api.Stamp{}, api.ErrRange))
		}
	}
}

// TestWholeDays counts all frames of a day, as a clock with four wheels would do (T1).
func TestWholeDays(t *testing.T) {
	for _, rate := range rates {
		n := 0
		for i := range 24 * 60 * 60 {
			for frames := range fps(rate) {
				s := at(i/3600, i/60%60, i%60, frames)
				if isLeftOut(rate, s) {
					continue
				}
				number, fault := stamp.Number(rate, s)
				back, wrong := stamp.StampOf(rate, n)
				if number != n || back != s || fault != api.OK || wrong != api.OK {
					t.Fatal(rate, s, n, number, back, fault, wrong)
				}
				n++
			}
		}
		same(t, fmt.Sprint("the frames of ", rate), n, days[rate])
	}
}

// TestAdds goes on and back from stamps (T2).
func TestAdds(t *testing.T) {
	rows := []struct {
		rate int
		s    api.Stamp
		n    int
		want api.Stamp
	}{
		{api.Rate25, at(0, 0, 0, 0), 0, at(0, 0, 0, 0)},
		{api.Rate25, at(0, 0, 0, 24), 1, at(0, 0, 1, 0)},
		{api.Rate25, at(23, 59, 59, 24), 1, at(0, 0, 0, 0)},
		{api.Rate25, at(0, 0, 0, 0), -1, at(23, 59, 59, 24)},
		{api.Rate25, at(1, 2, 3, 4), 2160000, at(1, 2, 3, 4)},
		{api.Rate25, at(1, 2, 3, 4), -2160000, at(1, 2, 3, 4)},
		{api.Rate24, at(23, 59, 59, 23), 2073600, at(23, 59, 59, 23)},
		{api.Rate24, at(0, 0, 0, 1), -2073599, at(0, 0, 0, 2)},
		{api.Rate30, at(0, 59, 59, 29), 1, at(1, 0, 0, 0)},
		{api.RateDrop, at(0, 0, 59, 29), 1, at(0, 1, 0, 2)},
		{api.RateDrop, at(0, 1, 0, 2), -1, at(0, 0, 59, 29)},
		{api.RateDrop, at(0, 9, 59, 29), 1, at(0, 10, 0, 0)},
		{api.RateDrop, at(23, 59, 59, 29), 1, at(0, 0, 0, 0)},
		{api.RateDrop, at(0, 0, 0, 0), 2589408, at(0, 0, 0, 0)},
		{api.RateDrop, at(0, 0, 0, 0), -2589408, at(0, 0, 0, 0)},
	}
	for _, r := range rows {
		same(t, fmt.Sprint("Add ", r.rate, r.s, r.n), results(stamp.Add(r.rate, r.s, r.n)), results(r.want, api.OK))
	}
	for _, rate := range rates {
		for _, n := range []int{-days[rate] - 1, days[rate] + 1, math.MinInt, math.MaxInt} {
			same(t, fmt.Sprint("Add ", rate, n), results(stamp.Add(rate, at(0, 0, 0, 0), n)), results(api.Stamp{}, api.ErrRange))
		}
	}
}

// TestBetweens looks at how much later a stamp is than another one (T2).
func TestBetweens(t *testing.T) {
	rows := []struct {
		rate int
		a, b api.Stamp
		want int
	}{
		{api.Rate25, at(0, 0, 0, 0), at(0, 0, 0, 0), 0},
		{api.Rate25, at(0, 0, 0, 0), at(0, 0, 1, 1), 26},
		{api.Rate25, at(23, 59, 59, 24), at(0, 0, 0, 0), 1},
		{api.Rate25, at(0, 0, 0, 1), at(0, 0, 0, 0), 2159999},
		{api.RateDrop, at(0, 0, 59, 29), at(0, 1, 0, 2), 1},
		{api.RateDrop, at(0, 1, 0, 2), at(0, 0, 59, 29), 2589407},
	}
	for _, r := range rows {
		same(t, fmt.Sprint("Between ", r.rate, r.a, r.b), results(stamp.Between(r.rate, r.a, r.b)), results(r.want, api.OK))
	}
	// The fault of the first one is given.
	same(t, "Between of two that are wrong", results(stamp.Between(api.RateDrop, at(0, 1, 0, 0), at(24, 0, 0, 0))), results(0, api.ErrNone))
	same(t, "Between of two that are wrong", results(stamp.Between(api.RateDrop, at(24, 0, 0, 0), at(0, 1, 0, 0))), results(0, api.ErrRange))
}
