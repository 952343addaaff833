package level_test

import (
	"fmt"
	"math"
	"math/big"
	"testing"

	"cyclorama/api"
)

// extremes are numbers that no argument should fall over.
var extremes = []int{math.MinInt, math.MinInt + 1, -api.MaxTime, -1, 0, 1, api.Full, api.Full + 1, api.MaxTime, api.MaxTime + 1, math.MaxInt - 1, math.MaxInt}

func rat(a, b int) *big.Rat { return big.NewRat(int64(a), int64(b)) }

func plus(a, b *big.Rat) *big.Rat { return new(big.Rat).Add(a, b) }

func minus(a, b *big.Rat) *big.Rat { return new(big.Rat).Sub(a, b) }

func times(a, b *big.Rat) *big.Rat { return new(big.Rat).Mul(a, b) }

// rounded is the floor of a number plus 1/2, as G5 defines it.
func rounded(r *big.Rat) int {
	r = plus(r, rat(1, 2))
	return int(new(big.Int).Div(r.Num(), r.Denom()).Int64())
}

// wayOf is w of L4, written down as it stands there.
func wayOf(c api.Curve, x *big.Rat) *big.Rat {
	one := rat(1, 1)
	switch c.Kind {
	case api.CurveLinear:
		return x
	case api.CurveSlow:
		return times(x, x)
	case api.CurveFast:
		return minus(one, times(minus(one, x), minus(one, x)))
	case api.CurveSoft:
		return times(times(x, x), minus(rat(3, 1), times(rat(2, 1), x)))
	case api.CurveStep:
		if x.Cmp(one) < 0 {
			return rat(0, 1)
		}
		return one
	}
	for i := 1; i < len(c.Points); i++ {
		a, b := c.Points[i-1], c.Points[i]
		if x.Cmp(rat(b.Time, 1000)) <= 0 {
			slope := rat(b.Way-a.Way, b.Time-a.Time)
			return plus(rat(a.Way, 1000), times(slope, minus(x, rat(a.Time, 1000))))
		}
	}
	panic("beyond the last point")
}

// levelOf is the level of L5, written down as it stands there.
func levelOf(f api.Fade, t int) int {
	begin := f.Start + f.Delay
	switch {
	case f.Time == 0 && t < begin:
		return f.From
	case f.Time == 0:
		return f.To
	case t <= begin:
		return f.From
	case t >= begin+f.Time:
		return f.To
	}
	w := wayOf(f.Curve, rat(t-begin, f.Time))
	return rounded(plus(rat(f.From, 1), times(rat(f.To-f.From, 1), w)))
}

func table(numbers ...int) api.Curve {
	c := api.Curve{Kind: api.CurveTable}
	for i := 0; i < len(numbers); i += 2 {
		c.Points = append(c.Points, api.Point{Time: numbers[i], Way: numbers[i+1]})
	}
	return c
}

var linear = api.Curve{Kind: api.CurveLinear}

func curves() []api.Curve {
	return []api.Curve{
		linear,
		{Kind: api.CurveSlow},
		{Kind: api.CurveFast},
		{Kind: api.CurveSoft},
		{Kind: api.CurveStep},
		table(0, 0, 1000, 1000),
		table(0, 0, 1, 999, 1000, 1000),
		table(0, 0, 333, 0, 334, 1000, 1000, 1000),
		table(0, 0, 7, 13, 500, 100, 501, 100, 998, 777, 1000, 1000),
	}
}

// same says what two results are, if they differ as they are printed.
func same(t *testing.T, name string, got, want any) {
	t.Helper()
	if g, w := fmt.Sprintf("%+v", got), fmt.Sprintf("%+v", want); g != w {
		t.Errorf("%s: got %s, want %s", name, g, w)
	}
}

type list []any

func (l list) String() string { return fmt.Sprint([]any(l)...) }

// results makes one value of the results of a call.
func results(l ...any) list { return l }
