package pick

import (
	"strconv"
	"strings"

	"cyclorama/api"
	"cyclorama/words"
)

// kindWords are the words with which the texts of some kinds begin.
var kindWords = [...]string{
	api.PickGroup:  "group",
	api.PickPreset: "preset",
	api.PickOdd:    "odd",
	api.PickEven:   "even",
	api.PickBack:   "back",
	api.PickEvery:  "every",
}

// Print returns the text of a selection.
func Print(p api.Pick) (string, api.Fault) {
	if fault := Check(p); fault != api.OK {
		return "", fault
	}
	return words.Limited(show(p), api.MaxPickText)
}

func show(p api.Pick) string {
	from, to := strconv.Itoa(p.From), strconv.Itoa(p.To)
	switch p.Kind {
	case api.PickUnits:
		if from == to {
			return from
		}
		return from + " thru " + to
	case api.PickGroup, api.PickPreset:
		return kindWords[p.Kind] + " " + from
	case api.PickJoin:
		return showArgs(p, " + ")
	case api.PickLess:
		return showArgs(p, " - ")
	case api.PickEvery:
		return kindWords[p.Kind] + " " + from + " from " + to + " " + showArgs(p, "")
	}
	return kindWords[p.Kind] + " " + showArgs(p, "")
}

func showArgs(p api.Pick, sign string) string {
	texts := make([]string, len(p.Args))
	for i, arg := range p.Args {
		texts[i] = show(arg)
		if hasBrackets(p.Kind, i, arg.Kind) {
			texts[i] = "(" + texts[i] + ")"
		}
	}
	return strings.Join(texts, sign)
}

// hasBrackets says whether brackets stand around the Arg number i, from 0 on, of a kind. They are not needed where reading from the left comes to the same.
func hasBrackets(kind, i, arg int) bool {
	switch {
	case arg != api.PickJoin && arg != api.PickLess:
		return false
	case i == 0 && kind == api.PickLess:
		return false
	case i == 0 && kind == api.PickJoin:
		return arg == api.PickJoin
	}
	return true
}
