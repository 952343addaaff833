package effect

import (
	"strconv"
	"strings"

	"cyclorama/api"
	"cyclorama/decimal"
	"cyclorama/level"
	"cyclorama/words"
)

// formWords are the words of the forms, by their numbers.
var formWords = [...]string{
	api.FormTriangle: "triangle",
	api.FormUp:       "up",
	api.FormDown:     "down",
	api.FormSquare:   "square",
	api.FormSoft:     "soft",
	api.FormChance:   "chance",
	api.FormSteps:    "steps",
}

// Text returns the text of an effect.
func Text(e api.Effect) (string, api.Fault) {
	if fault := Check(e); fault != api.OK {
		return "", fault
	}
	text := formWords[e.Form] + " from " + show(e.Low) + " to " + show(e.High)
	if hasCycle(e) {
		text += " cycle " + strconv.Itoa(e.Cycle)
	}
	if hasWidth(e) {
		text += " width " + strconv.Itoa(e.Width)
	}
	if e.Spread != 0 {
		text += " spread " + strconv.Itoa(e.Spread)
	}
	if e.Back {
		text += " back"
	}
	if e.Relative {
		text += " relative"
	}
	for _, s := range e.Steps {
		text += " " + show(s.Level) + ":" + strconv.Itoa(s.Hold) + ":" + strconv.Itoa(s.Fade)
	}
	return words.Limited(text, api.MaxEffectText)
}

// show returns the text of what is known to be a level.
func show(n int) string {
	text, _ := level.Show(n)
	return text
}

// Read returns the effect of a text as Text writes it.
func Read(text string) (api.Effect, api.Fault) {
	if len(text) > api.MaxEffectText {
		return api.Effect{}, api.ErrLarge
	}
	e, ok := parse(text)
	if !ok {
		return api.Effect{}, api.ErrSyntax
	}
	if fault := Check(e); fault != api.OK {
		return api.Effect{}, fault
	}
	return e, api.OK
}

func parse(text string) (api.Effect, bool) {
	w := words.Split(text)
	e := api.Effect{Form: words.Take(w, readForm)}
	w.Fixed("from")
	e.Low = words.Take(w, level.Read)
	w.Fixed("to")
	e.High = words.Take(w, level.Read)
	if hasCycle(e) {
		w.Fixed("cycle")
		e.Cycle = w.Number()
	}
	if hasWidth(e) {
		w.Fixed("width")
		e.Width = w.Number()
	}
	if w.Option("spread") {
		e.Spread = words.Take(w, readSpread)
	}
	e.Back = w.Option("back")
	e.Relative = w.Option("relative")
	// The steps are read for each form: Check says where there can be none.
	for w.More() {
		e.Steps = append(e.Steps, words.Take(w, readStep))
	}
	return e, w.Ended()
}

func readForm(word string) (int, api.Fault) {
	for form := api.FormTriangle; form <= api.FormSteps; form++ {
		if formWords[form] == word {
			return form, api.OK
		}
	}
	return 0, api.ErrSyntax
}

// readSpread reads a number that is not 0 and can have a sign.
func readSpread(word string) (int, api.Fault) {
	digits, negative := strings.CutPrefix(word, "-")
	n, ok := decimal.Number(digits)
	if !ok || n == 0 {
		return 0, api.ErrSyntax
	}
	if negative {
		n = -n
	}
	return n, api.OK
}

func readStep(word string) (api.EffectStep, api.Fault) {
	height, times, _ := strings.Cut(word, ":")
	before, behind, _ := strings.Cut(times, ":")
	n, fault := level.Read(height)
	hold, isHold := decimal.Number(before)
	fade, isFade := decimal.Number(behind)
	if fault != api.OK || !isHold || !isFade {
		return api.EffectStep{}, api.ErrSyntax
	}
	return api.EffectStep{Level: n, Hold: hold, Fade: fade}, api.OK
}
