package cue_test

import (
	"testing"

	"cyclorama/api"
	"cyclorama/cue"
)

func mark(unit, from, to int) api.Mark { return api.Mark{Unit: unit, From: from, To: to} }

// TestMarks has lists, their marks, and the lists in which these are carried out ("" if it is the same).
func TestMarks(t *testing.T) {
	for name, c := range map[string]struct {
		list   string
		marks  []api.Mark
		marked string
	}{
		"none":                                {"", nil, ""},
		"dark by a move":                      {"cue 1|  1.dim out|cue 2|cue 3|  1.dim full|  1.pan full in 3|", []api.Mark{mark(1, 1000, 3000)}, "cue 1|  1.dim out|  1.pan full|cue 2|cue 3|  1.dim full|"},
		"dark by its Default":                 {"cue 1|cue 2|cue 3|  1.dim full|  1.pan full|", []api.Mark{mark(1, 1000, 3000)}, "cue 1|  1.pan full|cue 2|cue 3|  1.dim full|"},
		"not in the first cue":                {"cue 1|  1.dim full|  1.pan full|cue 2|", nil, ""},
		"dark from a later cue on":            {"cue 1|  1.dim full|cue 2|  1.dim out|cue 3|cue 4|  1.dim #1|  1.pan full|", []api.Mark{mark(1, 2000, 4000)}, "cue 1|  1.dim full|cue 2|  1.dim out|  1.pan full|cue 3|cue 4|  1.dim #1|"},
		"dark by a Release":                   {"cue 1|  1.dim full|cue 2|  1.dim release in 1|cue 3|  1.dim full|  1.pan full|", []api.Mark{mark(1, 2000, 3000)}, "cue 1|  1.dim full|cue 2|  1.dim release in 1|  1.pan full|cue 3|  1.dim full|"},
		"dark by a preset":                    {"cue 1|  1.dim preset 2|cue 2|  1.dim preset 1|  1.pan preset 1|", []api.Mark{mark(1, 1000, 2000)}, "cue 1|  1.dim preset 2|  1.pan preset 1|cue 2|  1.dim preset 1|"},
		"still dark":                          {"cue 1|cue 2|  1.pan full|cue 3|  1.dim out|  1.pan #5|", nil, ""},
		"lit ahead":                           {"cue 1|  1.dim full|cue 2|  1.dim #5|  1.pan full|", nil, ""},
		"lit ahead, then dark":                {"cue 1|  1.dim full|cue 2|  1.dim out|  1.pan full|cue 3|", nil, ""},
		"lit between":                         {"cue 1|cue 2|  1.dim full|cue 3|  1.dim out|cue 4|  1.dim full|  1.pan full|", []api.Mark{mark(1, 3000, 4000)}, "cue 1|cue 2|  1.dim full|cue 3|  1.dim out|  1.pan full|cue 4|  1.dim full|"},
		"one between moves it":                {"cue 1|cue 2|  1.pan #2|cue 3|cue 4|  1.dim full|  1.pan full|", []api.Mark{mark(1, 2000, 4000)}, "cue 1|cue 2|  1.pan full|cue 3|cue 4|  1.dim full|"},
		"one between moves another parameter": {"cue 1|cue 2|  1.zoom #2|cue 3|cue 4|  1.dim full|  1.pan full|", []api.Mark{mark(1, 2000, 4000)}, "cue 1|cue 2|  1.pan full|  1.zoom #2|cue 3|cue 4|  1.dim full|"},
		"one between releases what was not":   {"cue 1|cue 2|  1.zoom release|cue 3|cue 4|  1.dim full|  1.pan full|", []api.Mark{mark(1, 2000, 4000)}, "cue 1|cue 2|  1.pan full|  1.zoom release|cue 3|cue 4|  1.dim full|"},
		"one between moves its intensity":     {"cue 1|cue 2|  1.dim out|cue 3|  1.dim release|cue 4|  1.dim full|  1.pan full|", []api.Mark{mark(1, 1000, 4000)}, "cue 1|  1.pan full|cue 2|  1.dim out|cue 3|  1.dim release|cue 4|  1.dim full|"},
		"one between moves another unit":      {"cue 1|cue 2|  10.pan #2|cue 3|  1.dim full|  1.pan full|", []api.Mark{mark(1, 1000, 3000)}, "cue 1|  1.pan full|cue 2|  10.pan #2|cue 3|  1.dim full|"},
		"the first one moves it":              {"cue 1|  1.pan #2 in 4|  1.zoom #2 in 5 after 6|cue 2|cue 3|  1.dim full|  1.pan full|", []api.Mark{mark(1, 1000, 3000)}, "cue 1|  1.pan full|  1.zoom #2 in 5 after 6|cue 2|cue 3|  1.dim full|"},
		"the one that makes it dark moves it": {"cue 1|  1.dim full|cue 2|  1.dim out|  1.pan #2|cue 3|cue 4|  1.dim full|  1.pan full|", []api.Mark{mark(1, 2000, 4000)}, "cue 1|  1.dim full|cue 2|  1.dim out|  1.pan full|cue 3|cue 4|  1.dim full|"},
		"the one that lights moves none":      {"cue 1|cue 2|  1.pan #2|cue 3|  1.dim full|", nil, ""},
		"the same levels":                     {"cue 1|  1.pan #7|cue 2|cue 3|  1.dim full|  1.pan preset 1|  1.zoom release|", nil, ""},
		"the Default":                         {"cue 1|cue 2|  1.dim full|  1.pan #500|  1.zoom out|", nil, ""},
		"the Default back":                    {"cue 1|  1.pan #5|cue 2|  1.dim full|  1.pan release in 5 after 6|", []api.Mark{mark(1, 1000, 2000)}, "cue 1|  1.pan release|cue 2|  1.dim full|"},
		"some the same, one not":              {"cue 1|  1.pan #7|cue 2|cue 3|  1.dim full|  1.pan #7 in 9|  1.zoom #1|", []api.Mark{mark(1, 1000, 3000)}, "cue 1|  1.pan #7|  1.zoom #1|cue 2|cue 3|  1.dim full|"},
		"the other one not":                   {"cue 1|  1.pan #7|cue 2|cue 3|  1.dim full|  1.pan #8|  1.zoom out|", []api.Mark{mark(1, 1000, 3000)}, "cue 1|  1.pan #8|  1.zoom out|cue 2|cue 3|  1.dim full|"},
		"two intensities, one lit":            {"cue 1|  2.left out|  2.right #1|cue 2|  2.left full|  2.tilt #5|", nil, ""},
		"two intensities, dark":               {"cue 1|  2.right #1|cue 2|  2.right out|cue 3|  2.right #1|  2.tilt #5|", []api.Mark{mark(2, 2000, 3000)}, "cue 1|  2.right #1|cue 2|  2.right out|  2.tilt #5|cue 3|  2.right #1|"},
		"two intensities, one goes on":        {"cue 1|  2.left #1|cue 2|  2.left out|  2.right #1|  2.tilt #5|", nil, ""},
		"no intensity":                        {"cue 1|cue 2|  3.amount #5|", nil, ""},
		"lit by its Default":                  {"cue 1|cue 2|  4.dim full|  4.red #5|", nil, ""},
		"dark, then its Default":              {"cue 1|  4.dim out|cue 2|  4.dim release|  4.red #5|", []api.Mark{mark(4, 1000, 2000)}, "cue 1|  4.dim out|  4.red #5|cue 2|  4.dim release|"},
		"several units":                       {"cue 1|  4.dim out|cue 2|  1.zoom #3|cue 3|  1.dim full|  1.pan full|  2.left #1|  2.tilt #5|  4.dim #1|  4.red #5|  10.dim #1|", []api.Mark{mark(1, 2000, 3000), mark(2, 1000, 3000), mark(4, 1000, 3000)}, "cue 1|  2.tilt #5|  4.dim out|  4.red #5|cue 2|  1.pan full|  1.zoom #3|cue 3|  1.dim full|  2.left #1|  4.dim #1|  10.dim #1|"},
		"one unit twice":                      {"cue 1|cue 2|  1.dim full|  1.pan #2|cue 3|  1.dim out|cue 4|  1.dim full|  1.pan #4|", []api.Mark{mark(1, 1000, 2000), mark(1, 3000, 4000)}, "cue 1|  1.pan #2|cue 2|  1.dim full|cue 3|  1.dim out|  1.pan #4|cue 4|  1.dim full|"},
		"cues ahead of units":                 {"cue 1|cue 2|  10.dim full|  10.pan #2|cue 3|  1.dim full|  1.pan #3|", []api.Mark{mark(10, 1000, 2000), mark(1, 1000, 3000)}, "cue 1|  1.pan #3|  10.pan #2|cue 2|  10.dim full|cue 3|  1.dim full|"},
		"units as numbers":                    {"cue 1|cue 2|  2.left #1|  2.tilt #5|  10.dim full|  10.pan #2|", []api.Mark{mark(2, 1000, 2000), mark(10, 1000, 2000)}, "cue 1|  2.tilt #5|  10.pan #2|cue 2|  2.left #1|  10.dim full|"},
		"Block":                               {"cue 1|cue 2 block|  1.dim full|  1.pan full|", []api.Mark{mark(1, 1000, 2000)}, "cue 1|  1.pan full|cue 2 block|  1.dim full|"},
		"fields stay":                         {"cue 1 up 1 \"A\"|cue 2 curve table 0:0 1000:1000 \"B\"|  1.dim full in 1|  1.pan full|", []api.Mark{mark(1, 1000, 2000)}, "cue 1 up 1 \"A\"|  1.pan full|cue 2 curve table 0:0 1000:1000 \"B\"|  1.dim full in 1|"},
	} {
		l := read(t, lines(c.list))
		same(t, "Marks: "+name, results(cue.Marks(stage(), looks(), l)), results(c.marks, api.OK))
		if c.marked == "" {
			c.marked = c.list
		}
		same(t, "Marked: "+name, text(cue.Marked(stage(), looks(), l)), lines(c.marked))
	}
}

// TestManyMarks has as many units, parameters and cues as there can be, and comes to the limit of moves of a cue.
func TestManyMarks(t *testing.T) {
	r, l := wide()
	for i := range r.Library[0].Params {
		r.Library[0].Params[i].Group = api.Position
	}
	r.Library[0].Params[0].Group = api.Intensity
	same(t, "no marks", results(cue.Marks(r, nil, l)), results([]api.Mark(nil), api.OK))
	// Cue 2 has 1924 others than the intensities of 76 and more units, of which cue 1 moves none.
	l[0].Moves = nil
	marks, fault := cue.Marks(r, nil, l)
	same(t, "marks", results(len(marks), marks[0], marks[76], fault), results(77, mark(1000, 1, 2), mark(1076, 1, 2), api.OK))
	out, fault := cue.Marked(r, nil, l)
	same(t, "moves", results(len(out[0].Moves), len(out[1].Moves), fault), results(1923, 77, api.OK))
	same(t, "moves in place", results(out[0].Moves[0].Timed, len(out[2].Moves)), results(false, 2000))
	// Cue 1 moves intensities of other units, which is as much as it can have beside these, and then one more.
	others := func(n int) []api.Move {
		var moves []api.Move
		for i := range n {
			m := l[1].Moves[0]
			m.Key.Unit = 1100 + i
			moves = append(moves, m)
		}
		return moves
	}
	l[0].Moves = others(77)
	_, fault = cue.Marked(r, nil, l)
	same(t, "as many moves", fault, api.OK)
	l[0].Moves = others(78)
	same(t, "a move too many", results(cue.Marked(r, nil, l)), none(api.ErrLarge))
	_, fault = cue.Marks(r, nil, l)
	same(t, "its marks", fault, api.OK)
}
