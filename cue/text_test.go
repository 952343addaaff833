package cue_test

import (
	"fmt"
	"strings"
	"testing"

	"cyclorama/api"
	"cyclorama/cue"
)

// TestTexts has texts, and the lists that they are of.
func TestTexts(t *testing.T) {
	all := with(func(c *api.Cue) {
		c.Number, c.Title, c.Delay, c.Up, c.Down, c.Other, c.Block, c.Follow = 12500, "A", 1, 2000, 60000, 3500, true, 0
		c.Curve = api.Curve{Kind: api.CurveTable, Points: []api.Point{{}, {Time: 5, Way: 10}, {Time: 1000, Way: 1000}}}
	})
	release := api.Move{Key: api.Key{Unit: 1, Param: "pan"}, Release: true}
	late := api.Move{Key: api.Key{Unit: 2, Param: "tilt"}, Release: true, Timed: true, Delay: 250, Time: 90000}
	preset := api.Move{Key: api.Key{Unit: 4, Param: "dim"}, Value: api.Value{Preset: 2}, Timed: true}
	for text, l := range map[string][]api.Cue{
		"":                          nil,
		"cue 1\n":                   {plain(1000)},
		"cue 0.001\ncue 0.002\n":    cues(2),
		"cue 0.5\n":                 {plain(500)},
		"cue 12.34\n":               {plain(12340)},
		"cue 12.034\n":              {plain(12034)},
		"cue 9999.999\n":            {plain(api.MaxCue)},
		"cue 0.001 delay 0.001\n":   {with(func(c *api.Cue) { c.Delay = 1 })},
		"cue 0.001 up 1\n":          {with(func(c *api.Cue) { c.Up = 1000 })},
		"cue 0.001 down 1.5\n":      {with(func(c *api.Cue) { c.Down = 1500 })},
		"cue 0.001 other 600:00\n":  {with(func(c *api.Cue) { c.Other = api.MaxTime })},
		"cue 0.001 block\n":         {with(func(c *api.Cue) { c.Block = true })},
		"cue 0.001 follow 0\n":      {with(func(c *api.Cue) { c.Follow = 0 })},
		"cue 0.001 follow 1:00\n":   {with(func(c *api.Cue) { c.Follow = 60000 })},
		"cue 0.001 curve soft\n":    {with(func(c *api.Cue) { c.Curve.Kind = api.CurveSoft })},
		"cue 0.001 \"A \"b\" c\"\n": {with(func(c *api.Cue) { c.Title = `A "b" c` })},
		"cue 0.001 \"\"\"\n":        {with(func(c *api.Cue) { c.Title = `"` })},
		"cue 0.001 \"\" \"\"\n":     {with(func(c *api.Cue) { c.Title = `" "` })},
		"cue 0.001 \"up 2\"\n":      {with(func(c *api.Cue) { c.Title = "up 2" })},
		"cue 12.5 delay 0.001 up 2 down 1:00 other 3.5 block follow 0 curve table 0:0 5:10 1000:1000 \"A\"\n": {all},
		"cue 1\n  1.dim out\n  1.zoom #1\n  10.dim full\n":                                                    {plain(1000, to(1, "dim", 0), to(1, "zoom", 1), to(10, "dim", api.Full))},
		"cue 1\n  1.dim 50% in 0\n":           {plain(1000, func() api.Move { m := timed(0, 0); m.Value.Level = 32768; return m }())},
		"cue 1\n  1.dim #5 in 1 after 0.25\n": {plain(1000, timed(250, 1000))},
		"cue 1\n  1.dim #5 in 0 after 1\n":    {plain(1000, timed(1000, 0))},
		"cue 1\n  1.pan release\n  2.tilt release in 1:30 after 0.25\n  4.dim preset 2 in 0\n": {plain(1000, release, late, preset)},
		"cue 1\n  1.dim out\ncue 2\ncue 3\n  1.dim out\n":                                      {plain(1000, to(1, "dim", 0)), plain(2000), plain(3000, to(1, "dim", 0))},
	} {
		same(t, "Text of "+text, results(cue.Text(stage(), looks(), l)), results(text, api.OK))
		same(t, "Read of "+text, results(cue.Read(stage(), looks(), text)), results(l, 0, api.OK))
	}
}

// TestFreedom has texts that Read reads, though Text writes others.
func TestFreedom(t *testing.T) {
	for text, want := range map[string]string{
		"cue 1\n  1.dim 0%\n":        "cue 1\n  1.dim out\n",
		"cue 1\n  1.dim #0\n":        "cue 1\n  1.dim out\n",
		"cue 1\n  1.dim 100% in 1\n": "cue 1\n  1.dim full in 1\n",
		"cue 1\n  1.dim 33.33%\n":    "cue 1\n  1.dim #21843\n",
		"cue 1\n  1.dim #32768\n":    "cue 1\n  1.dim 50%\n",
	} {
		l, line, fault := cue.Read(stage(), looks(), text)
		same(t, "Read of "+text, results(line, fault), results(0, api.OK))
		same(t, "Text of "+text, results(cue.Text(stage(), looks(), l)), results(want, api.OK))
	}
}

// TestWrongLines has lines that cannot stand behind a cue.
func TestWrongLines(t *testing.T) {
	for _, line := range []string{
		"", " ", "  ", "cue", "cue ", "cue  1", "cue 1 ", "Cue 1", "cue\t1", " cue 1", "queue 1", "cue 1\r", "# cue 1",
		"cue x", "cue -1", "cue +1", "cue 01", "cue 00", "cue 1.", "cue .5", "cue 1.0", "cue 1.50", "cue 1.000", "cue 1.2345", "cue 1.5.5", "cue 1,5", "cue 12345678", "cue 01234567", "cue 12345678.5", "cue 0.0", "cue 1e3", "cue 1 2",
		"cue 1 delay", "cue 1 delay ", "cue 1 delay 0", "cue 1 delay 0.0", "cue 1 delay 1.0", "cue 1 delay x", "cue 1 delay 60", "cue 1 delay 0:30", "cue 1 delay 600:00.001", "cue 1 delay 10000:00", "cue 1 delay -1", "cue 1 delay 1 delay 1", "cue 1  delay 1", "cue 1 delay  1",
		"cue 1 up", "cue 1 up 0", "cue 1 down 0", "cue 1 other 0", "cue 1 up 1 delay 1", "cue 1 down 1 up 1", "cue 1 other 1 down 1", "cue 1 block other 1", "cue 1 up 600:01",
		"cue 1 block block", "cue 1 Block", "cue 1 follow 1 block", "cue 1 follow", "cue 1 follow -1", "cue 1 follow 600:00.001", "cue 1 curve soft follow 1", "cue 1 curve soft block",
		"cue 1 curve", "cue 1 curve ", "cue 1 curve linear", "cue 1 curve soft ", "cue 1 curve  soft", "cue 1 curve hard", "cue 1 curve soft soft", "cue 1 curve table", "cue 1 curve table 0:0", "cue 1 curve table 0:0 1000:999", "cue 1 curve table 0:0 5:2000 1000:1000", "cue 1 curve table 0:0 500:1 400:2 1000:1000", "cue 1 curve table 0:0  1000:1000",
		`cue 1 "`, `cue 1 ""`, `cue 1 "A`, `cue 1 A"`, `cue 1"A"`, `cue 1 "A" `, `cue 1 "A"x`, `cue 1  "A"`, `cue 1 "A" up 1`, `cue 1 "A" "` + " ", `cue 1 'A'`, `cue "A"`, `cue 1 curve "A"`, `cue 1 curve table "A"`, `cue 1 up "A"`, `cue 1"x "y"`, `"A"`,
		"1.dim full", " 1.dim full", "   1.dim full", "\t1.dim full", "  1.dim", "  1.dim ", "  1.dim  full", "  1.dim full ", "  1. full", "  .dim full", "  1 full", "  1dim full", "  1..dim full", "  1.dim. full", "  1.Dim full", "  1.d_m full", "  01.dim full", "  -1.dim full", "  1234567890.dim full", "  1 .dim full", "  1. dim full", "  x.dim full",
		"  1.dim Full", "  1.dim 101%", "  1.dim #65536", "  1.dim #05", "  1.dim 5", "  1.dim 050%", "  1.dim 50.0%", "  1.dim 0.123%", "  1.dim #-1",
		"  1.dim preset", "  1.dim preset ", "  1.dim preset 0", "  1.dim preset 01", "  1.dim preset x", "  1.dim preset -1", "  1.dim preset 1234567890", "  1.dim preset  1", "  1.dim preset 1 2", "  1.dim preset1",
		"  1.dim release ", "  1.dim released", "  1.dim release full", "  1.dim full release",
		"  1.dim full in", "  1.dim full in ", "  1.dim full in x", "  1.dim full in 60", "  1.dim full in 1.0", "  1.dim full  in 1", "  1.dim full in  1", "  1.dim full in 1 ", "  1.dim full in 600:00.001", "  1.dim full after 1", "  1.dim full after 1 in 1", "  1.dim full in 1 after", "  1.dim full in 1 after ", "  1.dim full in 1 after 0", "  1.dim full in 1 after 1 1", "  1.dim full in 1 after 600:00.001", "  1.dim full in 1 in 1", "  1.dim full at 1", "  1.dim in 1",
		`  1.dim full "A"`,
	} {
		for ahead, number := range map[string]int{"cue 0.5\n": 2, "cue 0.25\n  1.dim full\ncue 0.5\n  1.pan out\n": 5} {
			for _, behind := range []string{"\n", "\nx\n", ""} {
				text := ahead + line + behind
				want := results([]api.Cue(nil), number, api.ErrSyntax)
				if line+behind == "" {
					continue
				}
				same(t, fmt.Sprintf("Read(%q)", text), results(cue.Read(stage(), looks(), text)), want)
			}
		}
	}
}

func TestWrongPlaces(t *testing.T) {
	for text, number := range map[string]int{
		"  1.dim full\n":                       1,
		"  1.dim full\ncue 1\n":                1,
		"\n":                                   1,
		"cue 1":                                1,
		"cue 1\ncue 2":                         2,
		"cue 1\n  1.dim full":                  2,
		"cue 1\n\n":                            2,
		"cue 1\n  1.dim full\n\ncue 2\n":       3,
		"x\ny\n":                               1,
		"cue 0\ncue 0\n  0.- preset 999999\nx": 4,
	} {
		same(t, fmt.Sprintf("Read(%q)", text), results(cue.Read(stage(), looks(), text)), results([]api.Cue(nil), number, api.ErrSyntax))
	}
}

// TestReadAndWrong has texts that can be read, but not the lists.
func TestReadAndWrong(t *testing.T) {
	long := strings.Repeat("x", 61)
	for text, want := range map[string]api.Fault{
		"cue 0\n":                                         api.ErrRange,
		"cue 10000\n":                                     api.ErrRange,
		"cue 1234567\n":                                   api.ErrRange,
		"cue 1234567.891\n":                               api.ErrRange,
		"cue 2\ncue 1\n":                                  api.ErrOrder,
		"cue 1\ncue 1\n":                                  api.ErrOrder,
		"cue 1 \" \"\n":                                   api.ErrForm,
		"cue 1 \" A\"\n":                                  api.ErrForm,
		"cue 1 \"A \"\n":                                  api.ErrForm,
		"cue 1 \"A\t\"\n":                                 api.ErrForm,
		"cue 1 \"\xff\"\n":                                api.ErrForm,
		"cue 1 \"A\r\"\n":                                 api.ErrForm,
		"cue 1 \"" + long + "\"\n":                        api.ErrForm,
		"cue 1\n  0.dim full\n":                           api.ErrRange,
		"cue 1\n  10000.dim full\n":                       api.ErrRange,
		"cue 1\n  999999999.dim full\n":                   api.ErrRange,
		"cue 1\n  1.-dim full\n":                          api.ErrName,
		"cue 1\n  1.1 full\n":                             api.ErrName,
		"cue 1\n  1." + long + " full\n":                  api.ErrName,
		"cue 1\n  1.dim preset 1000\n":                    api.ErrRange,
		"cue 1\n  1.dim preset 999999999\n":               api.ErrRange,
		"cue 1\n  1.pan full\n  1.dim full\n":             api.ErrOrder,
		"cue 1\n  1.dim full\n  1.dim full\n":             api.ErrOrder,
		"cue 1\n  5.dim full\n":                           api.ErrNone,
		"cue 1\n  1.dim preset 3\n":                       api.ErrNone,
		"cue 1\n  10.dim preset 1\n":                      api.ErrNone,
		"cue 1\n  5.dim full\ncue 1\n":                    api.ErrOrder,
		strings.Repeat("cue 1\n", 301):                    api.ErrLarge,
		"cue 1\n" + strings.Repeat("  1.dim out\n", 2001): api.ErrLarge,
	} {
		same(t, fmt.Sprintf("Read(%.80q)", text), results(cue.Read(stage(), looks(), text)), results([]api.Cue(nil), 0, want))
	}
}

// wide is a rig with 400 units of 26 parameters with long names, and a list with as many moves of them as there can be, each one with a Time.
func wide() (api.Rig, []api.Cue) {
	p := api.Profile{Name: "wide", Size: 26}
	for i := range p.Size {
		p.Params = append(p.Params, param(fmt.Sprint("abcdefghijklmnopqr", 10+i), api.Beam, 1+i, 0))
	}
	r := api.Rig{Library: []api.Profile{p}}
	l := cues(5)
	for i := range 400 {
		r.Units = append(r.Units, api.Unit{Number: 1000 + i, Profile: "wide", Universe: 1 + i/19, Address: 1 + 26*(i%19)})
	}
	for i := range api.MaxListMoves {
		m := api.Move{Key: api.Key{Unit: 1000 + i%2000/26, Param: p.Params[i%2000%26].Name}, Value: api.Value{Level: api.Full - 1}, Timed: true, Time: api.MaxTime - 1}
		l[i/2000].Moves = append(l[i/2000].Moves, m)
	}
	return r, l
}

// TestLengths has a text with as many bytes as there can be: each move has 49, some have 17 more, each cue has 10 and its title.
func TestLengths(t *testing.T) {
	r, l := wide()
	for i := range 6467 {
		l[i/2000].Moves[i%2000].Delay = api.MaxTime - 1
	}
	l[4].Title = strings.Repeat("x", 8)
	text, fault := cue.Text(r, nil, l)
	same(t, "a text of all bytes that can be", results(len(text), fault), results(api.MaxListText, api.OK))
	same(t, "Read of it", results(cue.Read(r, nil, text)), results(l, 0, api.OK))
	same(t, "Read of one byte more", results(cue.Read(r, nil, text+"\n")), results([]api.Cue(nil), 0, api.ErrLarge))
	same(t, "Read of as many, the last one wrong", results(cue.Read(r, nil, text[:len(text)-1]+" ")), results([]api.Cue(nil), 10005, api.ErrSyntax))
	l[4].Title += "x"
	same(t, "a text of one byte more", results(cue.Text(r, nil, l)), results("", api.ErrLarge))
	l[4].Moves[0].Key.Unit = 1400
	same(t, "a text of one byte more, and a wrong list", results(cue.Text(r, nil, l)), results("", api.ErrOrder))
}

// TestNumbers writes and reads the numbers of cues by themselves (Q2).
func TestNumbers(t *testing.T) {
	for text, n := range map[string]int{"0": 0, "0.001": 1, "0.5": 500, "1": 1000, "12.5": 12500, "12.05": 12050, "9999.999": 9999999, "9999999.999": 9999999999} {
		same(t, "NumberText of "+text, cue.NumberText(n), text)
		same(t, "ReadNumber of "+text, results(cue.ReadNumber(text)), results(n, api.OK))
	}
	for _, text := range []string{"", ".", "1.", ".5", "01", "1.0", "1.50", "1.2345", "10000000", "-1", "+1", " 1", "x"} {
		same(t, "ReadNumber of "+text, results(cue.ReadNumber(text)), results(0, api.ErrSyntax))
	}
}
