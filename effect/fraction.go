package effect

import "math/bits"

// number is a whole number of 256 bits in two's complement, the lowest ones first. A level of a soft effect that is faded in and out divides by the cube of a place in its cycle and by two times: this and what it is multiplied by has up to 212 bits.
type number [4]uint64

func numberOf(n int) number {
	sign := uint64(n >> 63)
	return number{uint64(n), sign, sign, sign}
}

func (a number) plus(b number) number {
	carry := uint64(0)
	for i := range a {
		a[i], carry = bits.Add64(a[i], b[i], carry)
	}
	return a
}

func (a number) minus(b number) number {
	borrow := uint64(0)
	for i := range a {
		a[i], borrow = bits.Sub64(a[i], b[i], borrow)
	}
	return a
}

func (a number) times(b number) number {
	var product number
	for i := range a {
		carry := uint64(0)
		// What lies beyond the highest bits is left out, as two's complement has it.
		for j := range len(a) - i {
			high, low := bits.Mul64(a[i], b[j])
			low, more := bits.Add64(low, carry, 0)
			carry = high + more
			product[i+j], more = bits.Add64(product[i+j], low, 0)
			carry += more
		}
	}
	return product
}

func (a number) isNegative() bool { return a[len(a)-1]>>63 == 1 }

func (a number) less(b number) bool { return a.minus(b).isNegative() }

// divide returns a / b, rounded down, and the rest, for a from 0 on and b greater than 0.
func divide(a, b number) (int, number) {
	if a.less(b) {
		return 0, a
	}
	quotient, rest := divide(a, b.plus(b))
	if rest.less(b) {
		return 2 * quotient, rest
	}
	return 2*quotient + 1, rest.minus(b)
}

// fraction is num / den, with a den greater than 0. It is kept exactly, since only the level at the end of a rule is rounded.
type fraction struct{ num, den number }

// of returns a whole number as a fraction.
func of(n int) fraction { return share(n, 1) }

// share returns part / whole.
func share(part, whole int) fraction { return fraction{numberOf(part), numberOf(whole)} }

func (f fraction) plus(g fraction) fraction {
	return fraction{f.num.times(g.den).plus(g.num.times(f.den)), f.den.times(g.den)}
}

func (f fraction) minus(g fraction) fraction {
	return fraction{f.num.times(g.den).minus(g.num.times(f.den)), f.den.times(g.den)}
}

func (f fraction) times(g fraction) fraction {
	return fraction{f.num.times(g.num), f.den.times(g.den)}
}

func (f fraction) isNegative() bool { return f.num.isNegative() }

// rounded returns the nearest whole number, of two equally near ones the greater one, for a fraction from 0 on.
func (f fraction) rounded() int {
	higher := f.plus(share(1, 2))
	n, _ := divide(higher.num, higher.den)
	return n
}
