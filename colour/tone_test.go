package colour_test

import (
	"fmt"
	"testing"

	"cyclorama/api"
	"cyclorama/colour"
)

func TestToneOf(t *testing.T) {
	l := colours()
	random := newChance(3)
	for range 3000 {
		l = append(l, random.colour())
	}
	for _, c := range l {
		same(t, fmt.Sprint("ToneOf ", c), results(colour.ToneOf(c)), results(toneOf(c), api.OK))
	}
	for c, want := range map[api.Colour]api.Tone{
		rgb(0, 0, 0):             {},
		rgb(7, 7, 7):             {Value: 7},
		rgb(65535, 65535, 65535): {Value: 65535},
		rgb(65535, 21845, 0):     {Hue: 21845, Saturation: 65535, Value: 65535},
		rgb(9, 9, 0):             {Hue: 65535, Saturation: 65535, Value: 9},
		rgb(0, 9, 0):             {Hue: 2 * 65535, Saturation: 65535, Value: 9},
		rgb(0, 9, 9):             {Hue: 3 * 65535, Saturation: 65535, Value: 9},
		rgb(0, 0, 9):             {Hue: 4 * 65535, Saturation: 65535, Value: 9},
		rgb(9, 0, 9):             {Hue: 5 * 65535, Saturation: 65535, Value: 9},
		// Half a part counts up, on both sides of red, and in the Saturation.
		rgb(2, 1, 0): {Hue: 32768, Saturation: 65535, Value: 2},
		rgb(2, 0, 1): {Hue: 6*65535 - 32767, Saturation: 65535, Value: 2},
		rgb(2, 1, 1): {Hue: 0, Saturation: 32768, Value: 2},
		// The last hue of the circle.
		rgb(65535, 0, 1): {Hue: 6*65535 - 1, Saturation: 65535, Value: 65535},
	} {
		same(t, fmt.Sprint("ToneOf ", c), results(colour.ToneOf(c)), results(want, api.OK))
	}
}

func TestFromTone(t *testing.T) {
	hues := []int{1, 2, 100, 32767, 32768, 65533, 65534}
	for sixth := range 6 {
		for _, rest := range append(hues, 0) {
			for _, saturation := range samples {
				for _, value := range samples {
					tone := api.Tone{Hue: sixth*65535 + rest, Saturation: saturation, Value: value}
					same(t, fmt.Sprint("FromTone ", tone), results(colour.FromTone(tone)), results(fromTone(tone), api.OK))
				}
			}
		}
	}
	random := newChance(4)
	for range 3000 {
		tone := api.Tone{Hue: random.IntN(6 * 65535), Saturation: random.level(), Value: random.level()}
		same(t, fmt.Sprint("FromTone ", tone), results(colour.FromTone(tone)), results(fromTone(tone), api.OK))
	}
	for tone, want := range map[api.Tone]api.Colour{
		{Hue: 99999, Value: 1000}:                           rgb(1000, 1000, 1000),
		{Hue: 99999, Saturation: 65535}:                     rgb(0, 0, 0),
		{Saturation: 65535, Value: 1000}:                    rgb(1000, 0, 0),
		{Saturation: 32768, Value: 65535}:                   rgb(65535, 32767, 32767),
		{Hue: 21845, Saturation: 65535, Value: 65535}:       rgb(65535, 21845, 0),
		{Hue: 65534, Saturation: 65535, Value: 65535}:       rgb(65535, 65534, 0),
		{Hue: 65535, Saturation: 65535, Value: 65535}:       rgb(65535, 65535, 0),
		{Hue: 65535 + 1, Saturation: 65535, Value: 65535}:   rgb(65534, 65535, 0),
		{Hue: 2*65535 + 1, Saturation: 65535, Value: 65535}: rgb(0, 65535, 1),
		{Hue: 3*65535 + 1, Saturation: 65535, Value: 65535}: rgb(0, 65534, 65535),
		{Hue: 4*65535 + 1, Saturation: 65535, Value: 65535}: rgb(1, 0, 65535),
		{Hue: 5*65535 + 1, Saturation: 65535, Value: 65535}: rgb(65535, 0, 65534),
		{Hue: 6*65535 - 1, Saturation: 65535, Value: 65535}: rgb(65535, 0, 1),
		{Hue: 32767, Saturation: 65535, Value: 1}:           rgb(1, 0, 0),
		{Hue: 32768, Saturation: 65535, Value: 1}:           rgb(1, 1, 0),
		// Red is as near to a half as it can be: half a Full-th below it, or above it.
		{Hue: 65535 + 49151, Saturation: 65533, Value: 65535}: rgb(16385, 65535, 2),
		{Hue: 65535 + 60854, Saturation: 65528, Value: 65535}: rgb(4688, 65535, 7),
	} {
		same(t, fmt.Sprint("FromTone ", tone), results(colour.FromTone(tone)), results(want, api.OK))
	}
	for _, hue := range []int{-1, 6 * 65535} {
		same(t, "FromTone of no hue", results(colour.FromTone(api.Tone{Hue: hue})), results(api.Colour{}, api.ErrRange))
	}
	for _, n := range notLevels {
		for _, tone := range []api.Tone{{Saturation: n}, {Value: n}, {Hue: 5, Saturation: n, Value: n}} {
			same(t, fmt.Sprint("FromTone ", tone), results(colour.FromTone(tone)), results(api.Colour{}, api.ErrRange))
		}
	}
}

// TestToneAndBack looks whether all hues come back from their full colours.
func TestToneAndBack(t *testing.T) {
	for hue := range 6 * 65535 {
		tone := api.Tone{Hue: hue, Saturation: api.Full, Value: api.Full}
		c, _ := colour.FromTone(tone)
		if back, fault := colour.ToneOf(c); back != tone || fault != api.OK {
			t.Fatalf("ToneOf the colour of %v: got %v %d", tone, back, fault)
		}
	}
}
