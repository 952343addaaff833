package stamp_test

import (
	"fmt"
	"math"
	"testing"

	"cyclorama/api"
	"cyclorama/stamp"
)

// TestMillis looks at how long frames last (T2).
func TestMillis(t *testing.T) {
	for _, r := range [][3]int{
		{api.Rate24, 0, 0}, {api.Rate24, 1, 42}, {api.Rate24, 2, 83}, {api.Rate24, 3, 125}, {api.Rate24, 2073600, 86400000},
		{api.Rate25, 1, 40}, {api.Rate25, 2159999, 86399960}, {api.Rate25, 2160000, 86400000},
		{api.Rate30, 1, 33}, {api.Rate30, 2, 67}, {api.Rate30, 2592000, 86400000},
		// 33.366.., 500.5, 533.866.., and 86399913.6
		{api.RateDrop, 1, 33}, {api.RateDrop, 15, 501}, {api.RateDrop, 16, 534}, {api.RateDrop, 30, 1001}, {api.RateDrop, 2589408, 86399914},
	} {
		same(t, fmt.Sprint("Millis ", r), results(stamp.Millis(r[0], r[1])), results(r[2], api.OK))
	}
	for _, rate := range rates {
		for _, n := range []int{-1, days[rate] + 1, math.MinInt, math.MaxInt} {
			same(t, fmt.Sprint("Millis ", rate, n), results(stamp.Millis(rate, n)), results(0, api.ErrRange))
		}
	}
}

// TestFrames looks at how many whole frames there are in times (T2).
func TestFrames(t *testing.T) {
	for _, r := range [][3]int{
		{api.Rate24, 0, 0}, {api.Rate24, 41, 0}, {api.Rate24, 42, 1}, {api.Rate24, 83, 1}, {api.Rate24, 84, 2}, {api.Rate24, 125, 3}, {api.Rate24, 86400000, 2073600},
		{api.Rate25, 39, 0}, {api.Rate25, 40, 1}, {api.Rate25, 86399999, 2159999}, {api.Rate25, 86400000, 2160000},
		{api.Rate30, 33, 0}, {api.Rate30, 34, 1}, {api.Rate30, 66, 1}, {api.Rate30, 100, 3}, {api.Rate30, 86400000, 2592000},
		{api.RateDrop, 33, 0}, {api.RateDrop, 34, 1}, {api.RateDrop, 1000, 29}, {api.RateDrop, 1001, 30}, {api.RateDrop, 86399913, 2589407}, {api.RateDrop, 86399914, 2589408},
	} {
		same(t, fmt.Sprint("Frames ", r), results(stamp.Frames(r[0], r[1])), results(r[2], api.OK))
	}
	for _, r := range [][2]int{{api.Rate24, 86400001}, {api.Rate25, 86400001}, {api.Rate30, 86400001}, {api.RateDrop, 86399915}, {api.Rate25, -1}, {api.Rate24, math.MinInt}, {api.RateDrop, math.MaxInt}} {
		same(t, fmt.Sprint("Frames ", r), results(stamp.Frames(r[0], r[1])), results(0, api.ErrRange))
	}
}

// TestConverts looks at stamps of other rates (T2).
func TestConverts(t *testing.T) {
	rows := []struct {
		from, to int
		s, want  api.Stamp
	}{
		{api.Rate30, api.Rate25, at(0, 0, 1, 15), at(0, 0, 1, 12)},
		{api.Rate25, api.Rate30, at(0, 0, 1, 12), at(0, 0, 1, 14)},
		{api.Rate25, api.Rate25, at(1, 2, 3, 4), at(1, 2, 3, 4)},
		{api.RateDrop, api.RateDrop, at(0, 1, 0, 2), at(0, 1, 0, 2)},
		{api.Rate24, api.Rate30, at(23, 59, 59, 23), at(23, 59, 59, 28)},
		// 1001 seconds are 30000 frames.
		{api.Rate30, api.RateDrop, at(0, 16, 41, 0), at(0, 16, 41, 0)},
		{api.Rate30, api.RateDrop, at(0, 16, 40, 29), at(0, 16, 40, 29)},
		{api.RateDrop, api.Rate30, at(0, 16, 41, 0), at(0, 16, 41, 0)},
		{api.RateDrop, api.Rate25, at(0, 0, 1, 0), at(0, 0, 1, 0)},
		{api.RateDrop, api.Rate25, at(0, 1, 0, 2), at(0, 1, 0, 1)},
		{api.RateDrop, api.Rate30, at(23, 59, 59, 29), at(23, 59, 59, 26)},
		// A day of RateDrop is shorter than the others: 86399.9136 seconds.
		{api.Rate25, api.RateDrop, at(23, 59, 59, 22), at(23, 59, 59, 28)},
		{api.Rate25, api.RateDrop, at(23, 59, 59, 23), at(0, 0, 0, 0)},
		{api.Rate30, api.RateDrop, at(23, 59, 59, 29), at(0, 0, 0, 1)},
	}
	for _, r := range rows {
		same(t, fmt.Sprint("Convert ", r.from, r.to, r.s), results(stamp.Convert(r.from, r.to, r.s)), results(r.want, api.OK))
		same(t, fmt.Sprint("the same, by fractions ", r.from, r.to, r.s), converted(r.from, r.to, r.s), r.want)
	}
}
