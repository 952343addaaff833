package colour

import (
	"strconv"

	"cyclorama/api"
)

// The digits that a component has in both texts of a colour, and what such a digit is.
const (
	longDigits  = 4
	shortDigits = 2
	digitBits   = 4
	digitBase   = 1 << digitBits
)

// doubled is a component of two equal bytes, in parts of such a byte.
const doubled = 257

// Show returns the shorter text that a colour has.
func Show(c api.Colour) (string, api.Fault) {
	if fault := Check(c); fault != api.OK {
		return "", fault
	}
	return show(c), api.OK
}

func show(c api.Colour) string {
	digits, unit := shortDigits, doubled
	if c.Red%doubled != 0 || c.Green%doubled != 0 || c.Blue%doubled != 0 {
		digits, unit = longDigits, 1
	}
	text := func(n int) string {
		// The digit ahead, which is cut off, keeps each 0 behind it.
		return strconv.FormatInt(int64(1<<(digits*digitBits)+n/unit), digitBase)[1:]
	}
	return "#" + text(c.Red) + text(c.Green) + text(c.Blue)
}

// Read returns the colour of a text of either length.
func Read(text string) (api.Colour, api.Fault) {
	digits, unit := longDigits, 1
	if len(text) == 1+3*shortDigits {
		digits, unit = shortDigits, doubled
	}
	if len(text) != 1+3*digits || text[0] != '#' {
		return api.Colour{}, api.ErrSyntax
	}
	all, err := strconv.ParseUint(text[1:], digitBase, 64)
	if err != nil {
		return api.Colour{}, api.ErrSyntax
	}
	bits := digits * digitBits
	level := func(behind int) int {
		return int(all>>(behind*bits)&(1<<bits-1)) * unit
	}
	return api.Colour{Red: level(2), Green: level(1), Blue: level(0)}, api.OK
}
