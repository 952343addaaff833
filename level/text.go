package level

import (
	"strconv"
	"strings"

	"cyclorama/api"
	"cyclorama/decimal"
)

// Hundredths of a percent, the finest percentage that a text can have.
const (
	onePercent = 100
	allPercent = 10000
	centPlaces = 2
)

// Milliseconds, and the digits that seconds have behind the full stop.
const (
	tenSeconds   = 10000
	oneMinute    = 60000
	secondPlaces = 3
)

const maxMinuteDigits = 4

func ofPercent(hundredths int) int {
	return share(hundredths, allPercent).of(api.Full)
}

// Show returns the shortest usual text of a level.
func Show(level int) (string, api.Fault) {
	if !IsLevel(level) {
		return "", api.ErrRange
	}
	switch level {
	case 0:
		return "out", api.OK
	case api.Full:
		return "full", api.OK
	}
	percent := share(level, api.Full).of(100)
	if ofPercent(percent*onePercent) == level {
		return strconv.Itoa(percent) + "%", api.OK
	}
	return "#" + strconv.Itoa(level), api.OK
}

// Read returns the level of each text that a level can have.
func Read(text string) (int, api.Fault) {
	switch text {
	case "out":
		return 0, api.OK
	case "full":
		return api.Full, api.OK
	}
	if digits, ok := strings.CutPrefix(text, "#"); ok {
		if n, ok := decimal.Number(digits); ok && IsLevel(n) {
			return n, api.OK
		}
	}
	if percent, ok := strings.CutSuffix(text, "%"); ok {
		if n, ok := decimal.ReadParts(percent, centPlaces); ok && n <= allPercent {
			return ofPercent(n), api.OK
		}
	}
	return 0, api.ErrSyntax
}

// ShowTime returns the text of a time.
func ShowTime(time int) (string, api.Fault) {
	if !IsTime(time) {
		return "", api.ErrRange
	}
	minutes, rest := time/oneMinute, time%oneMinute
	seconds := decimal.ShowParts(rest, secondPlaces)
	if minutes == 0 {
		return seconds, api.OK
	}
	if rest < tenSeconds {
		seconds = "0" + seconds
	}
	return strconv.Itoa(minutes) + ":" + seconds, api.OK
}

// ReadTime returns the time of a text as ShowTime writes it.
func ReadTime(text string) (int, api.Fault) {
	time, ok := parseTime(text)
	if !ok {
		return 0, api.ErrSyntax
	}
	if !IsTime(time) {
		return 0, api.ErrRange
	}
	return time, api.OK
}

func parseTime(text string) (int, bool) {
	before, after, long := strings.Cut(text, ":")
	if !long {
		time, ok := decimal.ReadParts(text, secondPlaces)
		return time, ok && time < oneMinute
	}
	minutes, ok := decimal.Number(before)
	if !ok || minutes == 0 || len(before) > maxMinuteDigits {
		return 0, false
	}
	rest, ok := parseSeconds(after)
	return minutes*oneMinute + rest, ok
}

// parseSeconds reads the two digits of seconds behind minutes: the first one can be the 0 that other numbers must not have.
func parseSeconds(text string) (int, bool) {
	if text == "" || text[0] < '0' || text[0] > '5' {
		return 0, false
	}
	tens := int(text[0] - '0')
	rest, ok := decimal.ReadParts(text[1:], secondPlaces)
	return tens*tenSeconds + rest, ok && rest < tenSeconds
}
