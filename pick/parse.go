package pick

import (
	"strings"

	"cyclorama/api"
	"cyclorama/decimal"
)

// maxNested is how many brackets and prefixes can be within one another.
const maxNested = 100

const (
	letters = "abcdefghijklmnopqrstuvwxyz"
	digits  = "0123456789"
	blank   = " "
)

// word is a word of a text, with the place of its first byte.
type word struct {
	text  string
	place int
}

func (w word) refuse() { panic(stop{api.ErrSyntax, w.place}) }

// split returns the words of a text, and behind them an empty one at its end. A row that touches the one ahead of it becomes a blank, which is a word that can stand nowhere.
func split(text string) []word {
	var l []word
	touched := false
	for place := 0; place < len(text); {
		w, isRow := firstWord(text[place:])
		next := word{w, place}
		if isRow && touched {
			next.text = blank
		}
		if w != blank {
			l = append(l, next)
		}
		touched = isRow
		place += len(w)
	}
	return append(l, word{"", len(text)})
}

// firstWord returns the word or the blank at the beginning of a text, and whether it is a row of letters or digits.
func firstWord(text string) (string, bool) {
	for _, row := range []string{letters, digits} {
		behind := strings.TrimLeft(text, row)
		if length := len(text) - len(behind); length > 0 {
			return text[:length], true
		}
	}
	return text[:1], false
}

// Parse returns the selection of a text, or the place of the first word that is wrong.
func Parse(text string) (api.Pick, int, api.Fault) {
	if len(text) > api.MaxPickText {
		return api.Pick{}, 0, api.ErrLarge
	}
	var p api.Pick
	how := ended(func() {
		r := &reader{split(text)}
		p = r.row(0)
		r.fixed("")
	})
	if how.fault == api.OK {
		how.fault = Check(p)
	}
	if how.fault != api.OK {
		return api.Pick{}, how.place, how.fault
	}
	return p, 0, api.OK
}

// reader has the words that are still to be read. It looks at a word for all errors before it goes on to the next one.
type reader struct{ left []word }

// option reads a word if it is this one, and says whether it is.
func (r *reader) option(text string) bool {
	if r.left[0].text != text {
		return false
	}
	r.left = r.left[1:]
	return true
}

// fixed reads a word that must be this one.
func (r *reader) fixed(text string) {
	first := r.left[0]
	if !r.option(text) {
		first.refuse()
	}
}

func (r *reader) number() int {
	first := r.left[0]
	n, ok := decimal.Number(first.text)
	if !ok {
		first.refuse()
	}
	r.left = r.left[1:]
	return n
}

// row reads parts with signs between them. nested is how many brackets and prefixes they are within.
func (r *reader) row(nested int) api.Pick {
	p := r.part(nested)
	last := 0
	for sign := r.sign(); sign != 0; sign = r.sign() {
		arg := r.part(nested)
		if sign == api.PickJoin && last == sign {
			p.Args = append(p.Args, arg)
		} else {
			p = api.Pick{Kind: sign, Args: []api.Pick{p, arg}}
		}
		last = sign
	}
	return p
}

// sign reads a sign, if there is one, and returns the kind for which it stands, or 0.
func (r *reader) sign() int {
	switch {
	case r.option("+"):
		return api.PickJoin
	case r.option("-"):
		return api.PickLess
	}
	return 0
}

// part reads a selection without signs outside of brackets.
func (r *reader) part(nested int) api.Pick {
	for kind, text := range kindWords {
		if text != "" && r.option(text) {
			return r.named(kind, nested)
		}
	}
	if r.option("(") {
		p := r.row(deeper(nested))
		r.fixed(")")
		return p
	}
	return r.units()
}

// named reads what stands behind the word of a kind.
func (r *reader) named(kind, nested int) api.Pick {
	p := api.Pick{Kind: kind}
	if kind == api.PickGroup || kind == api.PickPreset {
		p.From = r.number()
		return p
	}
	nested = deeper(nested)
	if kind == api.PickEvery {
		p.From = r.number()
		r.fixed("from")
		p.To = r.number()
	}
	p.Args = []api.Pick{r.part(nested)}
	return p
}

// deeper counts a further bracket or prefix.
func deeper(nested int) int {
	if nested == maxNested {
		panic(stop{fault: api.ErrLarge})
	}
	return nested + 1
}

func (r *reader) units() api.Pick {
	from := r.number()
	if !r.option("thru") {
		return api.Pick{Kind: api.PickUnits, From: from, To: from}
	}
	second := r.left[0]
	to := r.number()
	if to == from {
		second.refuse()
	}
	return api.Pick{Kind: api.PickUnits, From: from, To: to}
}
