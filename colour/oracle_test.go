package colour_test

import (
	"math/big"

	"cyclorama/api"
)

// The rules of the chapter, written down with fractions.

func rat(a, b int) *big.Rat { return big.NewRat(int64(a), int64(b)) }

func plus(a, b *big.Rat) *big.Rat { return new(big.Rat).Add(a, b) }

func times(l ...*big.Rat) *big.Rat {
	product := rat(1, 1)
	for _, x := range l {
		product.Mul(product, x)
	}
	return product
}

// rounded returns floor of the number plus 1/2.
func rounded(x *big.Rat) int {
	y := plus(x, rat(1, 2))
	return int(new(big.Int).Div(y.Num(), y.Denom()).Int64())
}

func modulo(a, b int) int { return ((a % b) + b) % b }

func toneOf(c api.Colour) api.Tone {
	const full = 65535
	most, least := max(c.Red, c.Green, c.Blue), min(c.Red, c.Green, c.Blue)
	t := api.Tone{Value: most}
	if most > 0 {
		t.Saturation = rounded(rat((most-least)*full, most))
	}
	if most == least {
		return t
	}
	d := plus(rat(4*full, 1), rat((c.Red-c.Green)*full, most-least))
	if most == c.Green {
		d = plus(rat(2*full, 1), rat((c.Blue-c.Red)*full, most-least))
	}
	if most == c.Red {
		d = rat((c.Green-c.Blue)*full, most-least)
	}
	t.Hue = modulo(rounded(d), 6*full)
	return t
}

func fromTone(tone api.Tone) api.Colour {
	const full = 65535
	k, f := tone.Hue/full, tone.Hue%full
	s, v := tone.Saturation, tone.Value
	p := rounded(rat(v*(full-s), full))
	q := rounded(times(rat(v, 1), rat(full*full-s*f, full*full)))
	t := rounded(times(rat(v, 1), rat(full*full-s*(full-f), full*full)))
	return [...]api.Colour{rgb(v, t, p), rgb(q, v, p), rgb(p, v, t), rgb(p, q, v), rgb(t, p, v), rgb(v, p, q)}[k]
}

func mix(a, b, part, whole int) int {
	return rounded(plus(rat(a, 1), times(rat(b-a, 1), rat(part, whole))))
}

func between(a, b api.Colour, way, part, whole int) api.Colour {
	const full = 65535
	switch {
	case part == 0:
		return a
	case part == whole:
		return b
	case way == 1:
		return rgb(mix(a.Red, b.Red, part, whole), mix(a.Green, b.Green, part, whole), mix(a.Blue, b.Blue, part, whole))
	}
	from, to := toneOf(a), toneOf(b)
	if from.Saturation == 0 {
		from.Hue = to.Hue
	} else if to.Saturation == 0 {
		to.Hue = from.Hue
	}
	s := modulo(to.Hue-from.Hue, 6*full)
	up := s <= 3*full
	if way == 3 {
		up = s > 3*full || s == 0
	}
	turn := s
	if !up {
		turn = -(6*full - s)
	}
	hue := rounded(plus(rat(from.Hue, 1), times(rat(turn, 1), rat(part, whole))))
	return fromTone(api.Tone{
		Hue:        modulo(hue, 6*full),
		Saturation: mix(from.Saturation, to.Saturation, part, whole),
		Value:      mix(from.Value, to.Value, part, whole),
	})
}

func distance(a, b api.Colour) int {
	r, g, bl := a.Red-b.Red, a.Green-b.Green, a.Blue-b.Blue
	return 2*r*r + 4*g*g + 3*bl*bl
}

func components(c api.Colour) [3]int { return [3]int{c.Red, c.Green, c.Blue} }

// sums returns what emitters with levels give of each component, times Full.
func sums(l []api.Emitter, levels []int) [3]int {
	var sums [3]int
	for i, e := range l {
		for j, n := range components(e.Colour) {
			sums[j] += n * levels[i]
		}
	}
	return sums
}

func given(l []api.Emitter, levels []int) api.Colour {
	var c [3]int
	for i, n := range sums(l, levels) {
		c[i] = min(rounded(rat(n, 65535)), 65535)
	}
	return rgb(c[0], c[1], c[2])
}
