package effect

import (
	"math/big"
	"math/rand/v2"
	"testing"
)

// These tests look at numbers by themselves: a wrong carry within them would hardly ever change a level.

// bigOf is a number in two's complement.
func bigOf(a number) *big.Int {
	n := new(big.Int)
	for i := range a {
		n.Lsh(n, 64).Or(n, new(big.Int).SetUint64(a[len(a)-1-i]))
	}
	return n
}

// wrapped is the number of 256 bits that a whole number has in two's complement.
func wrapped(n *big.Int) *big.Int {
	return new(big.Int).Mod(n, new(big.Int).Lsh(big.NewInt(1), 256))
}

// someNumber has words that are often all zeros, or all ones, with which carries go far.
func someNumber(c *rand.Rand) number {
	var a number
	for i := range a {
		a[i] = []uint64{0, 0, 1, 1 << 63, 1<<64 - 1, 1<<64 - 1, c.Uint64(), c.Uint64()}[c.IntN(8)]
	}
	return a
}

func TestNumbers(t *testing.T) {
	c := rand.New(rand.NewPCG(8, 7))
	for range 20000 {
		a, b := someNumber(c), someNumber(c)
		for _, r := range []struct {
			name string
			got  number
			want *big.Int
		}{
			{"plus", a.plus(b), new(big.Int).Add(bigOf(a), bigOf(b))},
			{"minus", a.minus(b), new(big.Int).Sub(bigOf(a), bigOf(b))},
			{"times", a.times(b), new(big.Int).Mul(bigOf(a), bigOf(b))},
		} {
			if bigOf(r.got).Cmp(wrapped(r.want)) != 0 {
				t.Fatalf("%x %s %x: got %x", a, r.name, b, r.got)
			}
		}
		// There is room for differences, and for doubling, in numbers of 253 bits.
		a[3], b[3] = a[3]>>3, b[3]>>3
		if got, want := a.less(b), bigOf(a).Cmp(bigOf(b)) < 0; got != want {
			t.Fatalf("%x less than %x: got %v", a, b, got)
		}
		n, m := int(c.Int64()), int(c.Int64())>>c.IntN(63)
		if c.IntN(2) == 0 {
			n, m = -n, -m
		}
		for _, i := range []int{n, m, 0, 1, -1} {
			if bigOf(numberOf(i)).Cmp(wrapped(big.NewInt(int64(i)))) != 0 || numberOf(i).isNegative() != (i < 0) {
				t.Fatalf("%d: got %x", i, numberOf(i))
			}
		}
	}
}

func TestDivide(t *testing.T) {
	c := rand.New(rand.NewPCG(9, 7))
	for range 20000 {
		b := someNumber(c)
		b[3] = b[3] >> 24
		b[c.IntN(3)] |= 1
		// The dividend is made of a quotient and a rest that is less than the divisor.
		quotient := c.IntN(1 << c.IntN(20))
		_, rest := divide(number{c.Uint64(), 0, 0, 0}, b)
		a := b.times(numberOf(quotient)).plus(rest)
		if q, r := divide(a, b); q != quotient || r != rest || !r.less(b) {
			t.Fatalf("%x / %x: got %d, the rest %x", a, b, q, r)
		}
	}
}

// TestFractions has fractions from all sides of what is rounded.
func TestFractions(t *testing.T) {
	for whole := 1; whole < 30; whole++ {
		for part := -60; part < 60; part++ {
			f := share(part, whole)
			if got, want := f.isNegative(), part < 0; got != want {
				t.Errorf("%d / %d is negative: got %v", part, whole, got)
			}
			// Each one is f, by another way.
			for _, g := range []fraction{f, f.plus(share(1, 3)).minus(share(1, 3)), f.times(share(-2, 7)).times(share(-7, 2)), of(part).times(share(1, whole))} {
				want := (2*part + whole) / (2 * whole)
				if part >= 0 && g.rounded() != want {
					t.Errorf("%d / %d, rounded: got %d, want %d", part, whole, g.rounded(), want)
				}
			}
		}
	}
}
