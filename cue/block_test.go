package cue_test

import (
	"fmt"
	"testing"

	"cyclorama/api"
	"cyclorama/cue"
)

func TestClean(t *testing.T) {
	for name, c := range map[string]struct{ list, want string }{
		"none":                       {"", ""},
		"what changes all":           {"cue 1|  1.dim full|cue 2|  1.dim #2|cue 3|  1.dim release|", "cue 1|  1.dim full|cue 2|  1.dim #2|cue 3|  1.dim release|"},
		"the same value":             {"cue 1|  1.dim full|  1.pan #1|cue 2 up 1|  1.dim full|  1.pan #2|", "cue 1|  1.dim full|  1.pan #1|cue 2 up 1|  1.pan #2|"},
		"the same value, later":      {"cue 1|  1.dim full|cue 2|cue 3|  1.dim full|", "cue 1|  1.dim full|cue 2|cue 3|"},
		"the same value, in a row":   {"cue 1|  1.dim full|cue 2|  1.dim full|cue 3|  1.dim full|cue 4|  1.dim out|", "cue 1|  1.dim full|cue 2|cue 3|cue 4|  1.dim out|"},
		"a value that was between":   {"cue 1|  1.dim full|cue 2|  1.dim #2|cue 3|  1.dim full|", "cue 1|  1.dim full|cue 2|  1.dim #2|cue 3|  1.dim full|"},
		"Timed ahead":                {"cue 1|  1.dim full in 1|cue 2|  1.dim full|", "cue 1|  1.dim full in 1|cue 2|"},
		"Timed":                      {"cue 1|  1.dim full|cue 2|  1.dim full in 0|cue 3|  1.dim full|", "cue 1|  1.dim full|cue 2|  1.dim full in 0|cue 3|"},
		"Block":                      {"cue 1 block|  1.dim full|cue 2 block|  1.dim full|cue 3|  1.dim full|", "cue 1 block|  1.dim full|cue 2 block|  1.dim full|cue 3|"},
		"a preset":                   {"cue 1|  1.dim preset 1|cue 2|  1.dim preset 1|cue 3|  1.dim preset 2|", "cue 1|  1.dim preset 1|cue 2|cue 3|  1.dim preset 2|"},
		"the level of a preset":      {"cue 1|  1.pan preset 1|cue 2|  1.pan #7|cue 3|  1.pan preset 1|", "cue 1|  1.pan preset 1|cue 2|  1.pan #7|cue 3|  1.pan preset 1|"},
		"the Default":                {"cue 1|  1.dim out|  1.pan #500|", "cue 1|  1.dim out|  1.pan #500|"},
		"Release of nothing":         {"cue 1|  1.dim release|cue 2|  1.dim release|", "cue 1|cue 2|"},
		"Release twice":              {"cue 1|  1.dim out|cue 2|  1.dim release|cue 3|  1.dim release|cue 4|  1.dim out|", "cue 1|  1.dim out|cue 2|  1.dim release|cue 3|cue 4|  1.dim out|"},
		"Release of nothing, Timed":  {"cue 1|  1.dim release in 0|cue 2|  1.dim release|", "cue 1|  1.dim release in 0|cue 2|"},
		"Release of nothing, Block":  {"cue 1 block|  1.dim release|cue 2|  1.dim release|", "cue 1 block|  1.dim release|cue 2|"},
		"a level 0 behind nothing":   {"cue 1|cue 2|  1.dim out|", "cue 1|cue 2|  1.dim out|"},
		"a level 0 behind a Release": {"cue 1|  1.dim out|cue 2|  1.dim release|cue 3|  1.dim out|", "cue 1|  1.dim out|cue 2|  1.dim release|cue 3|  1.dim out|"},
	} {
		same(t, name, text(cue.Clean(read(t, lines(c.list)))), lines(c.want))
	}
}

func TestBlock(t *testing.T) {
	list := lines("cue 1|  1.dim full in 3|  1.zoom #1|  10.pan preset 1|cue 2 up 1|  1.pan release|  1.zoom release|  2.left #2|cue 3 block|  1.dim #3|")
	for number, want := range map[int]string{
		1000: "cue 1 block|  1.dim full in 3|  1.zoom #1|  10.pan preset 1|cue 2 up 1|  1.pan release|  1.zoom release|  2.left #2|cue 3 block|  1.dim #3|",
		2000: "cue 1|  1.dim full in 3|  1.zoom #1|  10.pan preset 1|cue 2 up 1 block|  1.dim full|  1.pan release|  1.zoom release|  2.left #2|  10.pan preset 1|cue 3 block|  1.dim #3|",
		3000: "cue 1|  1.dim full in 3|  1.zoom #1|  10.pan preset 1|cue 2 up 1|  1.pan release|  1.zoom release|  2.left #2|cue 3 block|  1.dim #3|  2.left #2|  10.pan preset 1|",
	} {
		same(t, fmt.Sprint("Block of ", number), text(cue.Block(read(t, list), number)), lines(want))
	}
	large := []api.Cue{plain(1, steps(0, 1000)...), plain(2, steps(1000, 1001)...)}
	same(t, "too many moves of a cue", results(cue.Block(large, 2)), none(api.ErrLarge))
	large[1].Moves = large[1].Moves[1:]
	_, fault := cue.Block(large, 2)
	same(t, "as many moves of a cue", fault, api.OK)
	l := full()
	l[3].Moves, l[28].Moves = l[28].Moves[:1998], nil
	l[5].Moves = steps(1998, 1)
	same(t, "too many moves of a list", results(cue.Block(l, 300)), none(api.ErrLarge))
}

func TestUnblock(t *testing.T) {
	list := lines("cue 1 block|  1.dim full|  1.pan release|  1.zoom release in 0|cue 2 up 1 block|  1.dim full|  1.pan #2|  2.left release|  2.right #2|cue 3 block|  1.dim full in 0|  1.pan #2|cue 4|  1.pan #2|")
	for number, want := range map[int]string{
		1000: "cue 1|  1.dim full|  1.zoom release in 0|cue 2 up 1 block|  1.dim full|  1.pan #2|  2.left release|  2.right #2|cue 3 block|  1.dim full in 0|  1.pan #2|cue 4|  1.pan #2|",
		2000: "cue 1 block|  1.dim full|  1.pan release|  1.zoom release in 0|cue 2 up 1|  1.pan #2|  2.right #2|cue 3 block|  1.dim full in 0|  1.pan #2|cue 4|  1.pan #2|",
		3000: "cue 1 block|  1.dim full|  1.pan release|  1.zoom release in 0|cue 2 up 1 block|  1.dim full|  1.pan #2|  2.left release|  2.right #2|cue 3|  1.dim full in 0|cue 4|  1.pan #2|",
		// It had no Block.
		4000: "cue 1 block|  1.dim full|  1.pan release|  1.zoom release in 0|cue 2 up 1 block|  1.dim full|  1.pan #2|  2.left release|  2.right #2|cue 3 block|  1.dim full in 0|  1.pan #2|cue 4|",
	} {
		same(t, fmt.Sprint("Unblock of ", number), text(cue.Unblock(read(t, list), number)), lines(want))
	}
}

func TestNoCue(t *testing.T) {
	l := read(t, example)
	for _, number := range append(farNumbers, -1, 0, 999, 2000, 3001) {
		same(t, fmt.Sprint("Block of ", number), results(cue.Block(l, number)), none(api.ErrNone))
		same(t, fmt.Sprint("Unblock of ", number), results(cue.Unblock(l, number)), none(api.ErrNone))
	}
}
