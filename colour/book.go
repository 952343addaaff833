package colour

import (
	"cmp"
	"slices"
	"strconv"
	"strings"

	"cyclorama/api"
	"cyclorama/words"
)

// CheckBook validates a book of gels.
func CheckBook(l []api.Gel) api.Fault {
	if len(l) > api.MaxGels {
		return api.ErrLarge
	}
	ahead := 0
	for _, g := range l {
		switch {
		case g.Number < 1 || g.Number > api.MaxGel:
			return api.ErrRange
		case g.Number <= ahead:
			return api.ErrOrder
		case !words.IsTitle(g.Name):
			return api.ErrForm
		}
		if fault := Check(g.Colour); fault != api.OK {
			return fault
		}
		ahead = g.Number
	}
	return api.OK
}

// BookText returns the text of a book.
func BookText(l []api.Gel) (string, api.Fault) {
	if fault := CheckBook(l); fault != api.OK {
		return "", fault
	}
	var text strings.Builder
	for _, g := range l {
		text.WriteString(strconv.Itoa(g.Number) + " " + show(g.Colour) + " " + g.Name + "\n")
	}
	return words.Limited(text.String(), api.MaxBookText)
}

// ReadBook returns the book of a text, or the number of the first line that is wrong.
func ReadBook(text string) ([]api.Gel, int, api.Fault) {
	var l []api.Gel
	wrong, fault := words.ReadLines(text, api.MaxBookText, func(line string) bool {
		g, ok := readGel(line)
		l = append(l, g)
		return ok
	})
	if fault != api.OK {
		return nil, wrong, fault
	}
	if fault := CheckBook(l); fault != api.OK {
		return nil, 0, fault
	}
	return l, 0, api.OK
}

func readGel(line string) (api.Gel, bool) {
	w := words.Split(line)
	g := api.Gel{Number: w.Number(), Colour: words.Take(w, Read), Name: w.Rest()}
	return g, w.Ended()
}

// Nearest returns the n gels of a book that are nearest to a colour.
func Nearest(l []api.Gel, c api.Colour, n int) ([]api.Gel, api.Fault) {
	if fault := CheckBook(l); fault != api.OK {
		return nil, fault
	}
	if fault := Check(c); fault != api.OK {
		return nil, fault
	}
	if n < 0 || n > api.MaxGels {
		return nil, api.ErrRange
	}
	sorted := append([]api.Gel(nil), l...)
	// Equally near ones stay in the order of the book, which is that of their numbers.
	slices.SortStableFunc(sorted, func(a, b api.Gel) int {
		return cmp.Compare(distance(a.Colour, c), distance(b.Colour, c))
	})
	return sorted[:min(n, len(sorted))], api.OK
}
