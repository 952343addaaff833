package stamp_test

import (
	"fmt"
	"testing"

	"cyclorama/api"
	"cyclorama/stamp"
)

// TestTexts looks at texts of stamps (T2).
func TestTexts(t *testing.T) {
	rows := []struct {
		rate int
		s    api.Stamp
		text string
	}{
		{api.Rate24, at(0, 0, 0, 0), "00:00:00:00"},
		{api.Rate25, at(1, 2, 3, 4), "01:02:03:04"},
		{api.Rate25, at(10, 20, 30, 20), "10:20:30:20"},
		{api.Rate30, at(23, 59, 59, 29), "23:59:59:29"},
		{api.RateDrop, at(23, 59, 59, 29), "23:59:59;29"},
		{api.RateDrop, at(0, 10, 0, 0), "00:10:00;00"},
	}
	for _, r := range rows {
		same(t, "Show "+r.text, results(stamp.Show(r.rate, r.s)), results(r.text, api.OK))
		same(t, "Read "+r.text, results(stamp.Read(r.rate, r.text)), results(r.s, api.OK))
	}
}

// TestWrongTexts looks at texts that are none of a stamp: first whether they can be read, then whether there is such a stamp (T2).
func TestWrongTexts(t *testing.T) {
	rows := []struct {
		rate int
		text string
		want api.Fault
	}{
		{api.Rate25, "", api.ErrSyntax},
		{api.Rate25, "00:00:00", api.ErrSyntax},
		{api.Rate25, "00:00:00:0", api.ErrSyntax},
		{api.Rate25, "00:00:00:000", api.ErrSyntax},
		{api.Rate25, "00:00:00:00 ", api.ErrSyntax},
		{api.Rate25, " 0:00:00:00", api.ErrSyntax},
		{api.Rate25, "0:00:00:000", api.ErrSyntax},
		{api.Rate25, "00:00:00:00\n", api.ErrSyntax},
		{api.Rate25, "00:00:00;00", api.ErrSyntax},
		{api.Rate25, "00;00:00:00", api.ErrSyntax},
		{api.Rate25, "00:00.00:00", api.ErrSyntax},
		{api.Rate25, "00:00:00:0a", api.ErrSyntax},
		{api.Rate25, "00:00:00:a0", api.ErrSyntax},
		{api.Rate25, "00:00:+1:00", api.ErrSyntax},
		{api.Rate25, "00:-1:00:00", api.ErrSyntax},
		{api.Rate25, "0::00:00:00", api.ErrSyntax},
		{api.Rate25, "00:00:00:\xff\xff", api.ErrSyntax},
		{api.Rate25, "00:00:00:/:", api.ErrSyntax},
		{api.Rate25, "99:00:00;00", api.ErrSyntax},
		{api.RateDrop, "00:00:00:00", api.ErrSyntax},
		{api.RateDrop, "00;00;00;00", api.ErrSyntax},
		{api.RateDrop, "00:01:00:00", api.ErrSyntax},
		{api.Rate25, "24:00:00:00", api.ErrRange},
		{api.Rate25, "99:99:99:99", api.ErrRange},
		{api.Rate25, "00:60:00:00", api.ErrRange},
		{api.Rate25, "00:00:60:00", api.ErrRange},
		{api.Rate25, "00:00:00:25", api.ErrRange},
		{api.Rate24, "00:00:00:24", api.ErrRange},
		{api.Rate30, "00:00:00:30", api.ErrRange},
		{api.RateDrop, "00:00:00;30", api.ErrRange},
		{api.RateDrop, "00:01:00;00", api.ErrNone},
		{api.RateDrop, "23:59:00;01", api.ErrNone},
		{api.RateDrop, "24:01:00;01", api.ErrRange},
	}
	for _, r := range rows {
		same(t, fmt.Sprintf("Read %d %q", r.rate, r.text), results(stamp.Read(r.rate, r.text)), results(api.Stamp{}, r.want))
	}
}
