// Package decimal has the decimal numbers of texts, which have no needless 0.
package decimal

import (
	"strconv"
	"strings"
)

const maxDigits = 9

// Number returns the number that a text of 1 to 9 digits has, and whether it is one without a needless 0 ahead.
func Number(text string) (int, bool) {
	if text == "" || len(text) > maxDigits || !isDigits(text) {
		return 0, false
	}
	if text[0] == '0' && text != "0" {
		return 0, false
	}
	n := 0
	for i := range len(text) {
		n = 10*n + int(text[i]-'0')
	}
	return n, true
}

// ReadParts returns the number of a text as Number reads it, which can have up to places digits behind a full stop, in units of its last possible place (ReadParts("1.5", 3) is 1500). places is from 0 to 9.
func ReadParts(text string, places int) (int, bool) {
	whole, behind, stop := strings.Cut(text, ".")
	n, ok := Number(whole)
	if !ok || stop && !isBehind(behind, places) {
		return 0, false
	}
	for i := range places {
		n *= 10
		if i < len(behind) {
			n += int(behind[i] - '0')
		}
	}
	return n, true
}

// ShowParts returns the text that ReadParts reads as n, for n from 0 on.
func ShowParts(n, places int) string {
	unit := 1
	for range places {
		unit *= 10
	}
	text := strconv.Itoa(n / unit)
	if n%unit == 0 {
		return text
	}
	padded := strconv.Itoa(unit + n%unit)[1:]
	return text + "." + strings.TrimRight(padded, "0")
}

func isBehind(text string, places int) bool {
	return text != "" && len(text) <= places && isDigits(text) && text[len(text)-1] != '0'
}

func isDigits(text string) bool {
	for i := range len(text) {
		if text[i] < '0' || text[i] > '9' {
			return false
		}
	}
	return true
}
