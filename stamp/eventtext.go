package stamp

import (
	"strconv"
	"strings"

	"cyclorama/api"
	"cyclorama/cue"
	"cyclorama/level"
	"cyclorama/play"
	"cyclorama/words"
)

// kindWords are the words of the kinds of actions, by their numbers.
var kindWords = [...]string{
	api.ActGo:      "go",
	api.ActBack:    "back",
	api.ActJump:    "jump",
	api.ActPause:   "pause",
	api.ActResume:  "resume",
	api.ActRelease: "release",
	api.ActFader:   "fader",
	api.ActGrand:   "grand",
	api.ActBlack:   "black",
}

// lightWord is the word of ActBlack where it ends what is black.
const lightWord = "light"

// EventText returns the text of a list of events.
func EventText(s api.Setup, rate int, l []api.Event) (string, api.Fault) {
	p, fault := checked(s, rate, l)
	if fault != api.OK {
		return "", fault
	}
	var text strings.Builder
	for _, e := range l {
		text.WriteString(p.show(p.stamp(e.At)) + " " + actionText(e.Action) + "\n")
	}
	return words.Limited(text.String(), api.MaxListText)
}

// actionText returns the text of an action that is right.
func actionText(a api.Action) string {
	if a.Kind == api.ActBlack && a.Level == 0 {
		return lightWord
	}
	text := kindWords[a.Kind]
	if play.OfPlayback(a) {
		text += " " + strconv.Itoa(a.Playback)
	}
	switch a.Kind {
	case api.ActJump:
		text += " " + cue.NumberText(a.Cue)
	case api.ActRelease:
		time, _ := level.ShowTime(a.Level)
		text += " " + time
	case api.ActFader, api.ActGrand:
		shown, _ := level.Show(a.Level)
		text += " " + shown
	}
	return text
}

// ReadEvents returns the list of a text, or the number of the first line that is wrong.
func ReadEvents(s api.Setup, rate int, text string) ([]api.Event, int, api.Fault) {
	p, fault := paceFor(s, rate)
	if fault != api.OK {
		return nil, 0, fault
	}
	var l []api.Event
	wrong, fault := words.ReadLines(text, api.MaxListText, func(line string) bool {
		w := words.Split(line)
		at := p.number(words.Take(w, p.read))
		l = append(l, api.Event{At: at, Action: readAction(w)})
		return w.Ended()
	})
	if fault != api.OK {
		return nil, wrong, fault
	}
	if fault := p.checkEvents(s, l); fault != api.OK {
		return nil, 0, fault
	}
	return l, 0, api.OK
}

// readAction reads an action as actionText writes it, for each number of a playback or a cue.
func readAction(w *words.Line) api.Action {
	if w.Option(lightWord) {
		return api.Action{Kind: api.ActBlack}
	}
	a := api.Action{Kind: words.Take(w, readKind)}
	if play.OfPlayback(a) {
		a.Playback = w.Number()
	}
	switch a.Kind {
	case api.ActJump:
		a.Cue = words.Take(w, cue.ReadNumber)
	case api.ActRelease:
		a.Level = words.Take(w, level.ReadTime)
	case api.ActFader, api.ActGrand:
		a.Level = words.Take(w, level.Read)
	case api.ActBlack:
		a.Level = 1
	}
	return a
}

func readKind(word string) (int, api.Fault) {
	for kind := api.ActGo; kind <= api.ActBlack; kind++ {
		if kindWords[kind] == word {
			return kind, api.OK
		}
	}
	return 0, api.ErrSyntax
}
