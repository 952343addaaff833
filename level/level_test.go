package level_test

import (
	"fmt"
	"slices"
	"testing"

	"cyclorama/api"
	"cyclorama/level"
)

// samples are levels at and around places where a rounding could go wrong.
var samples = []int{0, 1, 2, 127, 128, 129, 255, 256, 257, 32767, 32768, 32769, 65278, 65534, api.Full}

func TestIsLevel(t *testing.T) {
	for _, n := range extremes {
		same(t, fmt.Sprint("IsLevel ", n), level.IsLevel(n), n >= 0 && n <= 65535)
	}
}

func TestIsTime(t *testing.T) {
	for _, n := range append(extremes, -1, 0, 35999999, 36000000, 36000001) {
		same(t, fmt.Sprint("IsTime ", n), level.IsTime(n), n >= 0 && n <= 36000000)
	}
}

func TestIsPart(t *testing.T) {
	for _, whole := range extremes {
		for _, part := range append([]int{whole}, extremes...) {
			same(t, fmt.Sprint("IsPart ", part, "/", whole), level.IsPart(part, whole), whole >= 1 && whole <= 36000000 && part >= 0 && part <= whole)
		}
	}
	for _, whole := range []int{1, 2, 1000, 36000000} {
		same(t, "IsPart of the end", level.IsPart(whole, whole), true)
		same(t, "IsPart beyond the end", level.IsPart(whole+1, whole), false)
	}
	same(t, "IsPart of too much", level.IsPart(0, 36000001), false)
}

func TestScale(t *testing.T) {
	for _, a := range samples {
		for b := 0; b <= api.Full; b += 51 {
			same(t, fmt.Sprint("Scale ", a, " ", b), results(level.Scale(a, b)), results(rounded(rat(a*b, api.Full)), api.OK))
		}
	}
	same(t, "Scale", results(level.Scale(32768, 32768)), results(16384, api.OK))
	same(t, "Scale", results(level.Scale(api.Full, 123)), results(123, api.OK))
	for _, n := range []int{-1, api.Full + 1} {
		same(t, "Scale", results(level.Scale(n, 0)), results(0, api.ErrRange))
		same(t, "Scale", results(level.Scale(0, n)), results(0, api.ErrRange))
	}
}

func TestMix(t *testing.T) {
	parts := [][2]int{{0, 1}, {1, 1}, {1, 2}, {1, 3}, {2, 3}, {3, 4}, {50, 1000}, {0, api.MaxTime}, {1, api.MaxTime}, {17999999, api.MaxTime}, {api.MaxTime / 2, api.MaxTime}, {api.MaxTime, api.MaxTime}}
	for _, a := range samples {
		for _, b := range samples {
			for _, p := range parts {
				want := rounded(plus(rat(a, 1), times(rat(b-a, 1), rat(p[0], p[1]))))
				same(t, fmt.Sprint("Mix ", a, b, p), results(level.Mix(a, b, p[0], p[1])), results(want, api.OK))
			}
		}
	}
	// Half a level counts up, on the way up and on the way down.
	same(t, "Mix", results(level.Mix(0, 1, 1, 2)), results(1, api.OK))
	same(t, "Mix", results(level.Mix(1, 0, 1, 2)), results(1, api.OK))
	same(t, "Mix", results(level.Mix(5, 0, 1, 2)), results(3, api.OK))
	for _, l := range [][4]int{
		{-1, 0, 0, 1}, {api.Full + 1, 0, 0, 1}, {0, -1, 0, 1}, {0, api.Full + 1, 0, 1},
		{0, 0, 0, 0}, {0, 0, 0, -1}, {0, 0, 0, api.MaxTime + 1}, {0, 0, -1, 1}, {0, 0, 2, 1}, {0, 0, api.MaxTime + 1, api.MaxTime},
	} {
		same(t, fmt.Sprint("Mix ", l), results(level.Mix(l[0], l[1], l[2], l[3])), results(0, api.ErrRange))
	}
}

func TestOctet(t *testing.T) {
	for n := 0; n <= api.Full; n++ {
		b, x := level.Octet(n)
		if want := rounded(rat(n*255, api.Full)); int(b) != want || x != api.OK {
			t.Fatalf("Octet(%d): got %d %d, want %d", n, b, x, want)
		}
	}
	for b := range 256 {
		n := level.FromOctet(byte(b))
		same(t, "FromOctet", n, b*257)
		same(t, "Octet of FromOctet", results(level.Octet(n)), results(byte(b), api.OK))
	}
	same(t, "Octet", results(level.Octet(-1)), results(0, api.ErrRange))
	same(t, "Octet", results(level.Octet(api.Full+1)), results(0, api.ErrRange))
}

func TestHighest(t *testing.T) {
	same(t, "Highest", results(level.Highest(nil)), results(0, api.OK))
	same(t, "Highest", results(level.Highest([]int{})), results(0, api.OK))
	same(t, "Highest", results(level.Highest([]int{0, 0})), results(0, api.OK))
	same(t, "Highest", results(level.Highest([]int{5, 9, 2})), results(9, api.OK))
	same(t, "Highest", results(level.Highest([]int{api.Full, 1})), results(api.Full, api.OK))
	same(t, "Highest of many", results(level.Highest(make([]int, 100000))), results(0, api.OK))
	for _, l := range [][]int{{-1}, {5, -1}, {api.Full + 1}, {1, 2, api.Full + 1, 3}} {
		same(t, fmt.Sprint("Highest ", l), results(level.Highest(l)), results(0, api.ErrRange))
	}
}

// spreadOf is the rule of L3 as it stands there.
func spreadOf(l []int, n int) []int {
	var out []int
	for i := range n {
		x := rat(0, 1)
		if n > 1 {
			x = rat(i*(len(l)-1), n-1)
		}
		k := int(x.Num().Int64() / x.Denom().Int64())
		if x.IsInt() {
			out = append(out, l[k])
			continue
		}
		out = append(out, rounded(plus(rat(l[k], 1), times(rat(l[k+1]-l[k], 1), minus(x, rat(k, 1))))))
	}
	return out
}

func TestSpread(t *testing.T) {
	many := make([]int, api.MaxSpread)
	for i := range many {
		many[i] = i * 7919 % (api.Full + 1)
	}
	for _, l := range [][]int{{5}, {0, 100}, {100, 0}, {0, 1}, {1, 0}, {0, 100, 0}, {0, api.Full}, {api.Full, 0, 3, 8}, many[:7], many} {
		for _, n := range []int{0, 1, 2, 3, 4, 5, 6, 7, 13, 100, 1999, 2000} {
			got, x := level.Spread(l, n)
			if x != api.OK || !slices.Equal(got, spreadOf(l, n)) {
				t.Errorf("Spread of %d corners, %d levels: got %v %d", len(l), n, got, x)
			}
		}
	}
	same(t, "Spread", results(level.Spread([]int{0, 100, 0}, 5)), results([]int{0, 50, 100, 50, 0}, api.OK))
	same(t, "Spread of one", results(level.Spread([]int{7, 100}, 1)), results([]int{7}, api.OK))
	same(t, "Spread of none", results(level.Spread([]int{7, 100}, 0)), results([]int{}, api.OK))
}

func TestSpreadErrors(t *testing.T) {
	large := make([]int, api.MaxSpread+1)
	large[3] = -1
	none := []int(nil)
	for _, c := range []struct {
		l    []int
		n    int
		want api.Fault
	}{
		{large, -1, api.ErrLarge}, {large, 1, api.ErrLarge},
		{[]int{-1}, -1, api.ErrRange}, {[]int{1, api.Full + 1}, 1, api.ErrRange}, {[]int{-1, 0}, 0, api.ErrRange},
		{none, 1, api.ErrNone}, {none, -1, api.ErrNone}, {[]int{}, api.MaxSpread + 1, api.ErrNone},
		{[]int{1}, -1, api.ErrRange}, {[]int{1}, api.MaxSpread + 1, api.ErrRange},
	} {
		same(t, fmt.Sprint("Spread ", len(c.l), " ", c.n), results(level.Spread(c.l, c.n)), results([]int{}, c.want))
	}
}

func TestSpreadMemory(t *testing.T) {
	whole := []int{10, 20, -5, -6}
	l, x := level.Spread(whole[:2], 2)
	same(t, "Spread", results(l, x), results([]int{10, 20}, api.OK))
	l[0], l[1] = 1, 2
	_ = append(l, 3)
	same(t, "the argument of Spread", whole, []int{10, 20, -5, -6})
}
