package level

import (
	"math/bits"
	"sort"
)

// wide is a whole number of 128 bits: a soft curve divides by the cube of a time, which 64 bits do not hold.
type wide struct{ high, low uint64 }

// product returns a times b, for both from 0 on.
func product(a, b int) wide {
	high, low := bits.Mul64(uint64(a), uint64(b))
	return wide{high, low}
}

func (w wide) plus(v wide) wide {
	low, carry := bits.Add64(w.low, v.low, 0)
	high, _ := bits.Add64(w.high, v.high, carry)
	return wide{high, low}
}

func (w wide) minus(v wide) wide {
	low, borrow := bits.Sub64(w.low, v.low, 0)
	high, _ := bits.Sub64(w.high, v.high, borrow)
	return wide{high, low}
}

func (w wide) times(n int) wide {
	high, low := bits.Mul64(w.low, uint64(n))
	return wide{high + w.high*uint64(n), low}
}

func (w wide) less(v wide) bool {
	return w.high < v.high || w.high == v.high && w.low < v.low
}

// ratio is num / den, from 0 to 1. It is kept exactly, since only the level at the end of a rule is rounded.
type ratio struct{ num, den wide }

// share returns part / whole.
func share(part, whole int) ratio {
	return ratio{product(part, 1), product(whole, 1)}
}

// rest returns 1 - r.
func (r ratio) rest() ratio {
	return ratio{r.den.minus(r.num), r.den}
}

// of returns span times r, rounded, for a span from 0 on.
func (r ratio) of(span int) int {
	doubled := r.num.times(2 * span).plus(r.den)
	above := sort.Search(span+1, func(n int) bool {
		return doubled.less(r.den.times(2 * n))
	})
	return above - 1
}

// between returns a + (b - a) r, rounded. A way down is seen from its lower end, where rounding goes up as it does on a way up.
func (r ratio) between(a, b int) int {
	if b < a {
		return b + r.rest().of(a-b)
	}
	return a + r.of(b-a)
}
