package cue_test

import (
	"fmt"
	"strings"
	"testing"

	"cyclorama/api"
	"cyclorama/cue"
)

const (
	only  = api.RecordOnly
	track = api.RecordTrack
)

// example is the list of the chapter's example.
const example = "cue 1\n  1.dim full\ncue 3\n  1.pan out\n"

// lines is the text of lines that are ended by a bar.
func lines(text string) string { return strings.ReplaceAll(text, "|", "\n") }

func TestRecordExample(t *testing.T) {
	half := []api.Move{to(1, "dim", 32768)}
	l := read(t, example)
	same(t, "only", text(cue.Record(l, 2000, half, only)), lines("cue 1|  1.dim full|cue 2|  1.dim 50%|cue 3|  1.dim full|  1.pan out|"))
	same(t, "track", text(cue.Record(l, 2000, half, track)), lines("cue 1|  1.dim full|cue 2|  1.dim 50%|cue 3|  1.pan out|"))
}

func TestRecord(t *testing.T) {
	timed := api.Move{Key: api.Key{Unit: 1, Param: "dim"}, Value: api.Value{Preset: 1}, Timed: true, Delay: 1, Time: 2}
	release := api.Move{Key: api.Key{Unit: 1, Param: "dim"}, Release: true}
	for name, c := range map[string]struct {
		list   string
		number int
		moves  []api.Move
		way    int
		want   string
	}{
		"into no list":                   {"", 5, []api.Move{to(1, "dim", 0)}, only, "cue 0.005|  1.dim out|"},
		"no moves":                       {"cue 1|  1.dim full|cue 3|", 2000, nil, only, "cue 1|  1.dim full|cue 2|cue 3|"},
		"no moves into a cue":            {"cue 1|  1.dim full|cue 3|", 1000, nil, track, "cue 1|  1.dim full|cue 3|"},
		"ahead of all":                   {"cue 1|  1.pan out|", 1, []api.Move{to(1, "dim", 0)}, track, "cue 0.001|  1.dim out|cue 1|  1.pan out|"},
		"behind all":                     {"cue 1|  1.pan out|", 9999999, []api.Move{to(1, "dim", 0)}, only, "cue 1|  1.pan out|cue 9999.999|  1.dim out|"},
		"a cue stays as it is":           {"cue 1 delay 1 up 2 down 3 other 4 block follow 5 curve soft \"A\"|  1.pan out|", 1000, []api.Move{to(1, "dim", 0)}, only, "cue 1 delay 1 up 2 down 3 other 4 block follow 5 curve soft \"A\"|  1.dim out|  1.pan out|"},
		"in place of a move":             {"cue 1|  1.dim full in 5 after 1|  1.pan out|", 1000, []api.Move{to(1, "dim", 1), to(2, "left", 2)}, track, "cue 1|  1.dim #1|  1.pan out|  2.left #2|"},
		"a move with all":                {"cue 1|  1.dim full|", 1000, []api.Move{timed}, only, "cue 1|  1.dim preset 1 in 0.002 after 0.001|"},
		"Release":                        {"cue 1|  1.dim full|cue 3|", 2000, []api.Move{release}, only, "cue 1|  1.dim full|cue 2|  1.dim release|cue 3|  1.dim full|"},
		"Release tracks":                 {"cue 1|  1.dim full|cue 3|", 2000, []api.Move{release}, track, "cue 1|  1.dim full|cue 2|  1.dim release|cue 3|"},
		"only, of what was not there":    {"cue 1|cue 3|", 2000, []api.Move{to(1, "dim", 0)}, only, "cue 1|cue 2|  1.dim out|cue 3|  1.dim release|"},
		"only, of what was released":     {"cue 1|  1.dim full|cue 1.5|  1.dim release|cue 3|", 2000, []api.Move{to(1, "dim", 0)}, only, "cue 1|  1.dim full|cue 1.5|  1.dim release|cue 2|  1.dim out|cue 3|  1.dim release|"},
		"only, of a preset":              {"cue 1|  1.dim preset 1 in 3|cue 3|", 2000, []api.Move{to(1, "dim", 0)}, only, "cue 1|  1.dim preset 1 in 3|cue 2|  1.dim out|cue 3|  1.dim preset 1|"},
		"only, of the cue's own move":    {"cue 1|  1.dim full|cue 2|  1.dim #7 in 3|cue 3|", 2000, []api.Move{to(1, "dim", 0)}, only, "cue 1|  1.dim full|cue 2|  1.dim out|cue 3|  1.dim #7|"},
		"only, of the cue's own Release": {"cue 1|  1.dim full|cue 2|  1.dim release|cue 3|", 2000, []api.Move{to(1, "dim", 0)}, only, "cue 1|  1.dim full|cue 2|  1.dim out|cue 3|  1.dim release|"},
		"only, the next one moves it":    {"cue 1|  1.dim full|cue 3|  1.dim #5 in 1|cue 4|", 2000, []api.Move{to(1, "dim", 0)}, only, "cue 1|  1.dim full|cue 2|  1.dim out|cue 3|  1.dim #5 in 1|cue 4|"},
		"only, the next one releases it": {"cue 1|  1.dim full|cue 3|  1.dim release|cue 4|", 2000, []api.Move{to(1, "dim", 0)}, only, "cue 1|  1.dim full|cue 2|  1.dim out|cue 3|  1.dim release|cue 4|"},
		"only, some of several":          {"cue 1|  1.dim full|cue 3|  1.pan #5|", 2000, []api.Move{to(1, "dim", 0), to(1, "pan", 0), to(1, "zoom", 0)}, only, "cue 1|  1.dim full|cue 2|  1.dim out|  1.pan out|  1.zoom out|cue 3|  1.dim full|  1.pan #5|  1.zoom release|"},
		"only, of the same value":        {"cue 1|  1.dim full|cue 3|", 2000, []api.Move{to(1, "dim", api.Full)}, only, "cue 1|  1.dim full|cue 2|  1.dim full|cue 3|  1.dim full|"},
		"only, and a later Block":        {"cue 1|  1.dim full|cue 3|cue 4 block|", 2000, []api.Move{to(1, "dim", 0)}, only, "cue 1|  1.dim full|cue 2|  1.dim out|cue 3|  1.dim full|cue 4 block|"},
		"track, up to a Block":           {"cue 1|  1.dim full|cue 3|cue 4 block|cue 5 block|", 2000, []api.Move{to(1, "dim", 0)}, track, "cue 1|  1.dim full|cue 2|  1.dim out|cue 3|cue 4 block|  1.dim full|cue 5 block|"},
		"track, the next one has Block":  {"cue 1|  1.dim full|cue 3 block|  1.pan out|cue 4|", 2000, []api.Move{to(1, "dim", 0)}, track, "cue 1|  1.dim full|cue 2|  1.dim out|cue 3 block|  1.dim full|  1.pan out|cue 4|"},
		"track, a Block moves it":        {"cue 1|  1.dim full|cue 3|cue 4 block|  1.dim #5 in 1|cue 5 block|", 2000, []api.Move{to(1, "dim", 0)}, track, "cue 1|  1.dim full|cue 2|  1.dim out|cue 3|cue 4 block|  1.dim #5 in 1|cue 5 block|"},
		"track, one between moves it":    {"cue 1|  1.dim full|cue 3|  1.dim #6|cue 3.5|cue 4 block|", 2000, []api.Move{to(1, "dim", 0)}, track, "cue 1|  1.dim full|cue 2|  1.dim out|cue 3|  1.dim #6|cue 3.5|cue 4 block|"},
		"track, one between releases it": {"cue 1|  1.dim full|cue 3|  1.dim release|cue 4 block|", 2000, []api.Move{to(1, "dim", 0)}, track, "cue 1|  1.dim full|cue 2|  1.dim out|cue 3|  1.dim release|cue 4 block|"},
		"track, of what was not there":   {"cue 1|cue 3|cue 4 block|", 2000, []api.Move{to(1, "dim", 0)}, track, "cue 1|cue 2|  1.dim out|cue 3|cue 4 block|  1.dim release|"},
		"track, of the cue's own move":   {"cue 1|  1.dim full|cue 2|  1.dim #7 in 3|cue 3|cue 4 block|", 2000, []api.Move{to(1, "dim", 0)}, track, "cue 1|  1.dim full|cue 2|  1.dim out|cue 3|cue 4 block|  1.dim #7|"},
		"track, some of several":         {"cue 1|  1.dim full|cue 3|  1.pan #5|cue 4 block|", 2000, []api.Move{to(1, "dim", 0), to(1, "pan", 0), to(1, "zoom", 0)}, track, "cue 1|  1.dim full|cue 2|  1.dim out|  1.pan out|  1.zoom out|cue 3|  1.pan #5|cue 4 block|  1.dim full|  1.zoom release|"},
		"track, the cue's own Block":     {"cue 1|  1.dim full|cue 2 block|cue 3|", 2000, []api.Move{to(1, "dim", 0)}, track, "cue 1|  1.dim full|cue 2 block|  1.dim out|cue 3|"},
		"track, a Block ahead of it":     {"cue 1 block|  1.dim full|cue 3|", 2000, []api.Move{to(1, "dim", 0)}, track, "cue 1 block|  1.dim full|cue 2|  1.dim out|cue 3|"},
	} {
		same(t, name, text(cue.Record(read(t, lines(c.list)), c.number, c.moves, c.way)), lines(c.want))
	}
	l, fault := cue.Record(nil, 7, nil, track)
	same(t, "a cue that is made anew", results(l, fault), results([]api.Cue{plain(7)}, api.OK))
}

func TestRecordInOrder(t *testing.T) {
	l := read(t, example)
	wrong := []api.Move{to(0, "", 0)}
	for _, number := range append(farNumbers, -1, 0, api.MaxCue+1) {
		same(t, fmt.Sprint("number ", number), results(cue.Record(l, number, make([]api.Move, 2001), 0)), none(api.ErrRange))
	}
	same(t, "too many moves", results(cue.Record(l, 1, make([]api.Move, 2001), 0)), none(api.ErrLarge))
	same(t, "wrong moves", results(cue.Record(l, 1, make([]api.Move, 2000), 0)), none(api.ErrRange))
	same(t, "a wrong move", results(cue.Record(l, 1, wrong, 0)), none(api.ErrRange))
	for _, way := range append(farNumbers, -1, 0, 3) {
		same(t, fmt.Sprint("way ", way), results(cue.Record(l, 1, nil, way)), none(api.ErrKind))
	}
	same(t, "a way ahead of a result", results(cue.Record(cues(300), 301, nil, 0)), none(api.ErrKind))
}

// TestRecordLarge comes to the limits of lists.
func TestRecordLarge(t *testing.T) {
	fault := func(l []api.Cue, fault api.Fault) api.Fault { return fault }
	same(t, "a cue too many", results(cue.Record(cues(300), 301, nil, only)), none(api.ErrLarge))
	same(t, "as many cues", fault(cue.Record(cues(299), 301, nil, only)), api.OK)
	same(t, "no cue more", fault(cue.Record(cues(300), 300, steps(0, 2000), only)), api.OK)
	some := []api.Cue{plain(1, steps(0, 1000)...), plain(2)}
	same(t, "as many moves of a cue", fault(cue.Record(some, 1, steps(1000, 1000), track)), api.OK)
	same(t, "a move of a cue too many", results(cue.Record(some, 1, steps(1000, 1001), track)), none(api.ErrLarge))
	some[1].Moves = steps(5000, 1000)
	same(t, "as many moves of the next cue", fault(cue.Record(some, 1, steps(0, 1000), only)), api.OK)
	same(t, "a move of the next cue too many", results(cue.Record(some, 1, steps(0, 1001), only)), none(api.ErrLarge))
	l := full()
	l[0].Moves = l[0].Moves[:1999]
	same(t, "as many moves of a list", fault(cue.Record(l, 300, steps(0, 1), only)), api.OK)
	same(t, "a move of a list too many", results(cue.Record(l, 300, steps(0, 2), only)), none(api.ErrLarge))
	same(t, "a move of a list too many by what is restored", results(cue.Record(l, 299, steps(0, 1), only)), none(api.ErrLarge))
	same(t, "no more of a list, since it tracks", fault(cue.Record(l, 299, steps(0, 1), track)), api.OK)
}

func TestDelete(t *testing.T) {
	for name, c := range map[string]struct {
		list   string
		number int
		way    int
		want   string
	}{
		"the only one":                  {"cue 1|  1.dim full|", 1000, only, ""},
		"the first one":                 {"cue 1|  1.dim full in 1 after 2|  1.pan #1|cue 2 up 3|  1.pan #2|", 1000, only, "cue 2 up 3|  1.dim full in 1 after 2|  1.pan #2|"},
		"the last one":                  {"cue 1|cue 2|  1.dim full|", 2000, only, "cue 1|"},
		"the last one, track":           {"cue 1 block|cue 2|  1.dim full|", 2000, track, "cue 1 block|"},
		"Release":                       {"cue 1|  1.dim full|cue 2|  1.dim release in 1|cue 3|", 2000, only, "cue 1|  1.dim full|cue 3|  1.dim release in 1|"},
		"a preset":                      {"cue 1|  1.dim preset 1|cue 2|cue 3|", 1000, only, "cue 2|  1.dim preset 1|cue 3|"},
		"of one with Block":             {"cue 1 block|  1.dim full|cue 2|", 1000, only, "cue 2|  1.dim full|"},
		"the next one moves all":        {"cue 1|  1.dim full|cue 2|  1.dim #2|cue 3|", 1000, only, "cue 2|  1.dim #2|cue 3|"},
		"the next one releases":         {"cue 1|  1.dim full|cue 2|  1.dim release|cue 3|", 1000, only, "cue 2|  1.dim release|cue 3|"},
		"what is not moved":             {"cue 1|  1.dim full|cue 2|  1.pan #1|cue 3|", 2000, only, "cue 1|  1.dim full|cue 3|  1.pan #1|"},
		"track":                         {"cue 1|  1.dim full|cue 2|cue 3|", 1000, track, "cue 2|cue 3|"},
		"track, up to a Block":          {"cue 1|  1.dim full in 1|  1.pan #1|  1.zoom #1|cue 2|  1.pan #2|cue 3 block|  1.zoom #3|cue 4 block|", 1000, track, "cue 2|  1.pan #2|cue 3 block|  1.dim full in 1|  1.zoom #3|cue 4 block|"},
		"track, the next one has Block": {"cue 1|  1.dim full|cue 2 block|cue 3|", 1000, track, "cue 2 block|  1.dim full|cue 3|"},
		"track, one between releases":   {"cue 1|  1.dim full|cue 2|  1.dim release|cue 3 block|", 1000, track, "cue 2|  1.dim release|cue 3 block|"},
		"track, of one with Block":      {"cue 1 block|  1.dim full|cue 2|", 1000, track, "cue 2|"},
	} {
		same(t, name, text(cue.Delete(read(t, lines(c.list)), c.number, c.way)), lines(c.want))
	}
}

func TestDeleteInOrder(t *testing.T) {
	l := read(t, example)
	for _, number := range append(farNumbers, -1, 0, 999, 2000, 3001) {
		same(t, fmt.Sprint("number ", number), results(cue.Delete(l, number, 0)), none(api.ErrNone))
	}
	for _, way := range append(farNumbers, -1, 0, 3) {
		same(t, fmt.Sprint("way ", way), results(cue.Delete(l, 1000, way)), none(api.ErrKind))
	}
	large := []api.Cue{plain(1, steps(0, 1000)...), plain(2, steps(1000, 1001)...)}
	same(t, "too many moves", results(cue.Delete(large, 1, only)), none(api.ErrLarge))
	_, fault := cue.Delete(large, 1, track)
	same(t, "no more moves", fault, api.OK)
	large[0].Moves = large[0].Moves[1:]
	_, fault = cue.Delete(large, 1, only)
	same(t, "as many moves", fault, api.OK)
	same(t, "a way ahead of a result", results(cue.Delete([]api.Cue{plain(1, steps(0, 2000)...), plain(2, steps(2000, 1)...)}, 1, 3)), none(api.ErrKind))
}

func TestCopy(t *testing.T) {
	for name, c := range map[string]struct {
		list     string
		from, to int
		want     string
	}{
		"behind all":          {"cue 1|  1.dim full in 3|cue 2|  1.dim #2|  1.pan #2|", 1000, 3000, "cue 1|  1.dim full in 3|cue 2|  1.dim #2|  1.pan #2|cue 3|  1.dim full|  1.pan release|"},
		"ahead of all":        {"cue 1|  1.dim full in 3|cue 2|  1.pan preset 1|", 2000, 1, "cue 0.001|  1.dim full|  1.pan preset 1|cue 1|  1.dim full in 3|  1.pan release|cue 2|  1.pan preset 1|"},
		"directly behind":     {"cue 1|  1.dim full|cue 2|  1.pan #2|", 1000, 1001, "cue 1|  1.dim full|cue 1.001|cue 2|  1.pan #2|"},
		"directly ahead":      {"cue 1|  1.dim full|cue 2|  1.dim #2 in 1|  1.pan #2|cue 3|", 2000, 1500, "cue 1|  1.dim full|cue 1.5|  1.dim #2|  1.pan #2|cue 2|  1.dim #2 in 1|  1.pan #2|cue 3|"},
		"between":             {"cue 1|  1.dim full|cue 2|  1.dim #2|  1.pan #2|cue 3|  1.zoom #3|", 1000, 2500, "cue 1|  1.dim full|cue 2|  1.dim #2|  1.pan #2|cue 2.5|  1.dim full|  1.pan release|cue 3|  1.dim #2|  1.pan #2|  1.zoom #3|"},
		"the next one moves":  {"cue 1|  1.dim full|cue 2|  1.dim #2|  1.pan #2|cue 3|  1.dim #3 in 1|", 1000, 2500, "cue 1|  1.dim full|cue 2|  1.dim #2|  1.pan #2|cue 2.5|  1.dim full|  1.pan release|cue 3|  1.dim #3 in 1|  1.pan #2|"},
		"released there":      {"cue 1|  1.dim full|  1.pan #1|cue 2|  1.dim release|cue 3|", 2000, 1500, "cue 1|  1.dim full|  1.pan #1|cue 1.5|  1.dim release|cue 2|  1.dim release|cue 3|"},
		"released since":      {"cue 1|  1.dim full|cue 2|  1.dim release|cue 3|", 1000, 2500, "cue 1|  1.dim full|cue 2|  1.dim release|cue 2.5|  1.dim full|cue 3|  1.dim release|"},
		"not what is equal":   {"cue 1|  1.dim full|  1.pan #1|cue 2|  1.dim #2|cue 3|  1.dim full in 1|cue 4|", 1000, 3500, "cue 1|  1.dim full|  1.pan #1|cue 2|  1.dim #2|cue 3|  1.dim full in 1|cue 3.5|cue 4|"},
		"a level of a preset": {"cue 1|  1.pan preset 1|cue 2|  1.pan #7|cue 3|", 1000, 2500, "cue 1|  1.pan preset 1|cue 2|  1.pan #7|cue 2.5|  1.pan preset 1|cue 3|  1.pan #7|"},
		"another preset":      {"cue 1|  1.dim preset 1|cue 2|  1.dim preset 2|", 1000, 2500, "cue 1|  1.dim preset 1|cue 2|  1.dim preset 2|cue 2.5|  1.dim preset 1|"},
		"all fields":          {"cue 1 delay 1 up 2 down 3 other 4 block follow 5 curve table 0:0 1000:1000 \"A\"|cue 2|", 1000, 3000, "cue 1 delay 1 up 2 down 3 other 4 block follow 5 curve table 0:0 1000:1000 \"A\"|cue 2|cue 3 delay 1 up 2 down 3 other 4 block follow 5 curve table 0:0 1000:1000 \"A\"|"},
		"a Block behind":      {"cue 1|  1.dim full|cue 2|  1.dim #2|cue 3|cue 4 block|", 1000, 2500, "cue 1|  1.dim full|cue 2|  1.dim #2|cue 2.5|  1.dim full|cue 3|  1.dim #2|cue 4 block|"},
		"the last number":     {"cue 1|", 1000, 9999999, "cue 1|cue 9999.999|"},
	} {
		same(t, name, text(cue.Copy(read(t, lines(c.list)), c.from, c.to)), lines(c.want))
	}
}

// TestCopyInOrder is of Shift, too, which has the same errors.
func TestCopyInOrder(t *testing.T) {
	for name, call := range map[string]func(l []api.Cue, from, to int) ([]api.Cue, api.Fault){"Copy": cue.Copy, "Shift": cue.Shift} {
		l := read(t, example)
		for _, from := range append(farNumbers, -1, 0, 2000, 3001) {
			same(t, fmt.Sprint(name, " from ", from), results(call(l, from, 0)), none(api.ErrNone))
		}
		for _, to := range append(farNumbers, -1, 0, api.MaxCue+1) {
			same(t, fmt.Sprint(name, " to ", to), results(call(l, 1000, to)), none(api.ErrRange))
		}
		same(t, name+" to itself", results(call(l, 1000, 1000)), none(api.ErrTwice))
		same(t, name+" to another one", results(call(l, 1000, 3000)), none(api.ErrTwice))
		same(t, name+" to 0, ahead of the result", results(call(cues(300), 1, 0)), none(api.ErrRange))
		same(t, name+" to one that is there, ahead of the result", results(call(cues(300), 1, 300)), none(api.ErrTwice))
		same(t, name+": a cue too many", results(call(cues(300), 1, 301)), none(api.ErrLarge))
		_, fault := call(cues(299), 1, 301)
		same(t, name+": as many cues", fault, api.OK)

		// The copy has 1001 moves that bring keys back, and 1000 of Release.
		large := []api.Cue{plain(1, steps(0, 1001)...), plain(2), plain(3)}
		for _, m := range steps(0, 1001) {
			large[1].Moves = append(large[1].Moves, api.Move{Key: m.Key, Release: true})
		}
		large[2].Moves = steps(2000, 1000)
		same(t, name+": a move too many", results(call(large, 1, 4)), none(api.ErrLarge))
		large[2].Moves = large[2].Moves[1:]
		_, fault = call(large, 1, 4)
		same(t, name+": as many moves", fault, api.OK)

		// The next cue has 1000 moves, and gets 1001 Releases.
		large = []api.Cue{plain(2, steps(2000, 1000)...), plain(3, steps(0, 1001)...)}
		same(t, name+": a move of the next cue too many", results(call(large, 3, 1)), none(api.ErrLarge))
	}
}

func TestRenumber(t *testing.T) {
	l := read(t, lines("cue 1 block|  1.dim full in 1|cue 2 \"A\"|cue 3|"))
	for _, c := range []struct {
		from, to int
		want     string
	}{
		{1000, 1, "cue 0.001 block|  1.dim full in 1|cue 2 \"A\"|cue 3|"},
		{1000, 1999, "cue 1.999 block|  1.dim full in 1|cue 2 \"A\"|cue 3|"},
		{2000, 1001, "cue 1 block|  1.dim full in 1|cue 1.001 \"A\"|cue 3|"},
		{2000, 2000, "cue 1 block|  1.dim full in 1|cue 2 \"A\"|cue 3|"},
		{2000, 2999, "cue 1 block|  1.dim full in 1|cue 2.999 \"A\"|cue 3|"},
		{3000, 2001, "cue 1 block|  1.dim full in 1|cue 2 \"A\"|cue 2.001|"},
		{3000, 9999999, "cue 1 block|  1.dim full in 1|cue 2 \"A\"|cue 9999.999|"},
	} {
		same(t, fmt.Sprint("from ", c.from, " to ", c.to), text(cue.Renumber(l, c.from, c.to)), lines(c.want))
	}
	for _, from := range append(farNumbers, -1, 0, 1500, 3001) {
		same(t, fmt.Sprint("from ", from), results(cue.Renumber(l, from, 0)), none(api.ErrNone))
	}
	for _, from := range []int{1000, 2000, 3000} {
		for _, to := range append(farNumbers, -1, 0, api.MaxCue+1) {
			same(t, fmt.Sprint("from ", from, " to ", to), results(cue.Renumber(l, from, to)), none(api.ErrRange))
		}
	}
	for _, c := range [][2]int{{1000, 2000}, {1000, 2001}, {1000, 5000}, {2000, 1000}, {2000, 999}, {2000, 3000}, {2000, 3001}, {3000, 2000}, {3000, 1500}, {3000, 1}} {
		same(t, fmt.Sprint("from ", c[0], " to ", c[1]), results(cue.Renumber(l, c[0], c[1])), none(api.ErrOrder))
	}
}

func TestShift(t *testing.T) {
	for name, c := range map[string]struct {
		list     string
		from, to int
		want     string
	}{
		"behind":           {"cue 1|  1.dim full|cue 2 up 1|  1.dim #2 in 3|cue 3|  1.pan #3|", 2000, 4000, "cue 1|  1.dim full|cue 3|  1.dim #2 in 3|  1.pan #3|cue 4 up 1|  1.pan release|"},
		"ahead":            {"cue 1|  1.dim full|cue 2 up 1|  1.pan #2 in 3|cue 3|  1.zoom #3|", 2000, 500, "cue 0.5 up 1|  1.dim full|  1.pan #2|cue 1|  1.dim full|  1.pan release|cue 3|  1.pan #2 in 3|  1.zoom #3|"},
		"at its place":     {"cue 1|  1.dim full|cue 2 up 1|  1.pan #2 in 3|cue 3|  1.zoom #3|", 2000, 2500, "cue 1|  1.dim full|cue 2.5 up 1|  1.pan #2 in 3|cue 3|  1.zoom #3|"},
		"the only one":     {"cue 1 block|  1.dim full in 3|", 1000, 2000, "cue 2 block|  1.dim full in 3|"},
		"the first one":    {"cue 1|  1.dim full|cue 2|  1.dim #2|cue 3|", 1000, 2500, "cue 2|  1.dim #2|cue 2.5|  1.dim full|cue 3|  1.dim #2|"},
		"not of a Block":   {"cue 1|  1.dim full|cue 2|  1.pan #2|cue 3 block|cue 4|", 1000, 3500, "cue 2|  1.dim full|  1.pan #2|cue 3 block|cue 3.5|  1.pan release|cue 4|  1.pan #2|"},
		"what it released": {"cue 1|  1.dim full|cue 2|  1.dim release|cue 3|  1.dim #3|", 2000, 4000, "cue 1|  1.dim full|cue 3|  1.dim #3|cue 4|  1.dim release|"},
	} {
		same(t, name, text(cue.Shift(read(t, lines(c.list)), c.from, c.to)), lines(c.want))
	}
	// The copy fits, but not what the next cue gets when it is deleted.
	large := []api.Cue{plain(1, steps(0, 1001)...), plain(2, steps(2000, 1000)...)}
	_, fault := cue.Copy(large, 1, 3)
	same(t, "the copy", fault, api.OK)
	same(t, "the next cue", results(cue.Shift(large, 1, 3)), none(api.ErrLarge))
}
