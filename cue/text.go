package cue

import (
	"strconv"
	"strings"

	"cyclorama/api"
	"cyclorama/decimal"
	"cyclorama/level"
	"cyclorama/pick"
	"cyclorama/words"
)

// moveIndent stands ahead of the lines of moves.
const moveIndent = "  "

// Numbers of cues have so many digits behind the full stop, and ahead of it.
const (
	numberPlaces   = 3
	maxWholeDigits = 7
)

// Text returns the text of a list.
func Text(r api.Rig, presets []api.Preset, l []api.Cue) (string, api.Fault) {
	if fault := CheckList(r, presets, l); fault != api.OK {
		return "", fault
	}
	var text strings.Builder
	for _, c := range l {
		text.WriteString(cueText(c) + "\n")
		for _, m := range c.Moves {
			text.WriteString(moveIndent + moveText(m) + "\n")
		}
	}
	return words.Limited(text.String(), api.MaxListText)
}

func cueText(c api.Cue) string {
	text := "cue " + NumberText(c.Number)
	text += timeText(" delay ", c.Delay) + timeText(" up ", c.Up) + timeText(" down ", c.Down) + timeText(" other ", c.Other)
	if c.Block {
		text += " block"
	}
	if c.Follow != noFollow {
		text += " follow " + showTime(c.Follow)
	}
	if c.Curve.Kind != api.CurveLinear {
		curve, _ := level.CurveText(c.Curve)
		text += " curve " + curve
	}
	return text + words.InQuotes(c.Title)
}

// timeText returns the text of a time behind a word, or none if it is 0.
func timeText(word string, time int) string {
	if time == 0 {
		return ""
	}
	return word + showTime(time)
}

// showTime returns the text of what is known to be a time.
func showTime(time int) string {
	text, _ := level.ShowTime(time)
	return text
}

func moveText(m api.Move) string {
	text := words.KeyText(m.Key) + " " + valueText(m)
	if m.Timed {
		text += " in " + showTime(m.Time) + timeText(" after ", m.Delay)
	}
	return text
}

func valueText(m api.Move) string {
	switch {
	case m.Release:
		return "release"
	case m.Value.Preset != 0:
		return "preset " + strconv.Itoa(m.Value.Preset)
	}
	text, _ := level.Show(m.Value.Level)
	return text
}

// Read returns the list of a text, or the number of the first line that is wrong.
func Read(r api.Rig, presets []api.Preset, text string) ([]api.Cue, int, api.Fault) {
	if fault := pick.CheckPresets(r, presets); fault != api.OK {
		return nil, 0, fault
	}
	var l []api.Cue
	wrong, fault := words.ReadLines(text, api.MaxListText, func(line string) bool {
		if move, ok := strings.CutPrefix(line, moveIndent); ok {
			return addMove(l, move)
		}
		c, ok := readCue(line)
		l = append(l, c)
		return ok
	})
	if fault != api.OK {
		return nil, wrong, fault
	}
	if fault := CheckList(r, presets, l); fault != api.OK {
		return nil, 0, fault
	}
	return l, 0, api.OK
}

func readCue(line string) (api.Cue, bool) {
	ahead, title, ok := words.CutTitle(line)
	w := words.Split(ahead)
	w.Must(ok)
	w.Fixed("cue")
	c := newCue(words.Take(w, ReadNumber))
	c.Title = title
	c.Delay, c.Up = readTime(w, "delay"), readTime(w, "up")
	c.Down, c.Other = readTime(w, "down"), readTime(w, "other")
	c.Block = w.Option("block")
	if w.Option("follow") {
		c.Follow = words.Take(w, level.ReadTime)
	}
	if w.Option("curve") {
		curve, fault := level.ReadCurve(w.Rest())
		w.Must(fault == api.OK && curve.Kind != api.CurveLinear)
		c.Curve = curve
	}
	return c, w.Ended()
}

// NumberText returns the text of the number of a cue, which must be from 0 on.
func NumberText(number int) string { return decimal.ShowParts(number, numberPlaces) }

// ReadNumber returns the number of a text as NumberText writes it, with so many digits as the number of a cue can have. It need not be one that cues have.
func ReadNumber(text string) (int, api.Fault) {
	whole, _, _ := strings.Cut(text, ".")
	n, ok := decimal.ReadParts(text, numberPlaces)
	if !ok || len(whole) > maxWholeDigits {
		return 0, api.ErrSyntax
	}
	return n, api.OK
}

// readTime reads the time behind a word, or 0 if the word is not there. It stands there only for another time than 0.
func readTime(w *words.Line, word string) int {
	if !w.Option(word) {
		return 0
	}
	time := words.Take(w, level.ReadTime)
	w.Must(time != 0)
	return time
}

// addMove gives the last cue the move of a line.
func addMove(l []api.Cue, line string) bool {
	if len(l) == 0 {
		return false
	}
	w := words.Split(line)
	m := api.Move{Key: words.Take(w, words.ReadKey)}
	switch {
	case w.Option("release"):
		m.Release = true
	case w.Option("preset"):
		m.Value.Preset = w.Number()
		w.Must(m.Value.Preset != 0)
	default:
		m.Value.Level = words.Take(w, level.Read)
	}
	if w.Option("in") {
		m.Timed = true
		m.Time = words.Take(w, level.ReadTime)
		m.Delay = readTime(w, "after")
	}
	last := &l[len(l)-1]
	last.Moves = append(last.Moves, m)
	return w.Ended()
}
