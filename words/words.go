// Package words has what the texts of all chapters are made of: names, titles, keys, lines, and the words of a line.
package words

import (
	"strconv"
	"strings"

	"cyclorama/api"
	"cyclorama/decimal"
)

const plain = "abcdefghijklmnopqrstuvwxyz0123456789-"

// IsPlain says whether a text is a row of a to z, 0 to 9 and hyphens, of at least one byte.
func IsPlain(text string) bool {
	return text != "" && strings.Trim(text, plain) == ""
}

// IsName says whether a text is a name.
func IsName(text string) bool {
	return len(text) <= api.MaxName && IsPlain(text) && text[0] >= 'a' && text[0] <= 'z'
}

// IsTitle says whether a text is a title.
func IsTitle(text string) bool {
	for i := range len(text) {
		if text[i] < ' ' || text[i] > '~' {
			return false
		}
	}
	return text != "" && len(text) <= api.MaxTitle && strings.Trim(text, " ") == text
}

// InQuotes returns what a title that is not empty adds to the end of a line.
func InQuotes(title string) string {
	if title == "" {
		return ""
	}
	return ` "` + title + `"`
}

// CutTitle returns what stands ahead of the title of a line, and the title, which can have quotes itself and need not be right. It is empty if there is none. Not ok: the title does not end with the line, or nothing stands between its quotes.
func CutTitle(line string) (ahead, title string, ok bool) {
	ahead, quoted, there := strings.Cut(line, ` "`)
	title, ended := strings.CutSuffix(quoted, `"`)
	return ahead, title, !there || ended && title != ""
}

// KeyText returns the text of a key.
func KeyText(k api.Key) string { return strconv.Itoa(k.Unit) + "." + k.Param }

// ReadKey returns the key of a text as KeyText writes it, for each number and each row as IsPlain has them.
func ReadKey(text string) (api.Key, api.Fault) {
	unit, param, _ := strings.Cut(text, ".")
	n, ok := decimal.Number(unit)
	if !ok || !IsPlain(param) {
		return api.Key{}, api.ErrSyntax
	}
	return api.Key{Unit: n, Param: param}, api.OK
}

// Limited returns a text, if it has no more bytes than it may have.
func Limited(text string, most int) (string, api.Fault) {
	if len(text) > most {
		return "", api.ErrLarge
	}
	return text, api.OK
}

// ReadLines gives read the lines of a text one after the other. Errors: ErrLarge if the text has more bytes than it may have; ErrSyntax for the first line that read does not take or that does not end with the byte 10, with its number, from 1 on.
func ReadLines(text string, most int, read func(line string) bool) (int, api.Fault) {
	if len(text) > most {
		return 0, api.ErrLarge
	}
	for number := 1; text != ""; number++ {
		line, rest, ended := strings.Cut(text, "\n")
		if !ended || !read(line) {
			return number, api.ErrSyntax
		}
		text = rest
	}
	return 0, api.OK
}

// Line is the words of a line that are still to be read, from the left to the right. Behind the first word that is not as it must be none is read any more, so that only Ended has to be looked at.
type Line struct {
	words []string
	wrong bool
}

// Split returns the words of a line, which single blanks separate.
func Split(line string) *Line {
	return &Line{words: strings.Split(line, " ")}
}

// Ended says whether all words were read, and each one was as it must be.
func (l *Line) Ended() bool { return !l.wrong && len(l.words) == 0 }

// More says whether there are words still to be read.
func (l *Line) More() bool { return !l.wrong && len(l.words) > 0 }

// Must says what must be true of the words that were read.
func (l *Line) Must(ok bool) {
	if !ok {
		l.wrong = true
	}
}

// Next reads a word, which must be there.
func (l *Line) Next() string {
	l.Must(len(l.words) > 0)
	if l.wrong {
		return ""
	}
	word := l.words[0]
	l.words = l.words[1:]
	return word
}

// Rest reads all words that are left as one text, which must have at least one byte.
func (l *Line) Rest() string {
	if l.wrong {
		return ""
	}
	text := strings.Join(l.words, " ")
	l.words = nil
	l.Must(text != "")
	return text
}

// Fixed reads a word that must be this one.
func (l *Line) Fixed(word string) { l.Must(l.Next() == word) }

// Option reads a word if it is this one, and says whether it is.
func (l *Line) Option(word string) bool {
	there := l.More() && l.words[0] == word
	if there {
		l.words = l.words[1:]
	}
	return there
}

// Plain reads a word of the bytes that names have.
func (l *Line) Plain() string {
	word := l.Next()
	l.Must(IsPlain(word))
	return word
}

// Number reads a number.
func (l *Line) Number() int {
	n, ok := decimal.Number(l.Next())
	l.Must(ok)
	return n
}

// Take reads a word by the function that reads such values.
func Take[T any](l *Line, read func(word string) (T, api.Fault)) T {
	value, fault := read(l.Next())
	l.Must(fault == api.OK)
	return value
}
