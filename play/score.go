package play

import (
	"maps"
	"slices"
	"sort"

	"cyclorama/api"
	"cyclorama/pick"
)

// nowhere is the place of a cue that is not there.
const nowhere = -1

// score is a cue list as it is played: its cues, without their moves, and these by their keys.
type score struct {
	cues   []api.Cue
	tracks []track // by keys
	lines  map[api.Key]int
}

// track is the moves of a key, in the order of cues.
type track struct {
	key   api.Key
	param api.Param
	moves []placed
}

// placed is a move with the place of its cue, and its level.
type placed struct {
	api.Move
	place int
	level int
}

// score returns the score of a list that is right. Presets do not change while a desk plays, so that their levels are looked up here.
func (p *plan) score(presets []api.Preset, l []api.Cue) *score {
	s := &score{lines: map[api.Key]int{}}
	moves := map[api.Key][]placed{}
	for i, c := range l {
		for _, m := range c.Moves {
			n, _ := pick.Level(presets, m.Key, m.Value)
			moves[m.Key] = append(moves[m.Key], placed{m, i, n})
		}
		c.Moves = nil
		c.Curve = cloneCurve(c.Curve)
		s.cues = append(s.cues, c)
	}
	for i, k := range slices.SortedFunc(maps.Keys(moves), pick.CompareKeys) {
		s.lines[k] = i
		s.tracks = append(s.tracks, track{k, p.params[k], moves[k]})
	}
	return s
}

// at returns the move that gives the key its value in the state at a cue, if it has one there.
func (t track) at(place int) (placed, bool) {
	n := sort.Search(len(t.moves), func(i int) bool { return t.moves[i].place > place })
	if n == 0 || t.moves[n-1].Release {
		return placed{}, false
	}
	return t.moves[n-1], true
}

// has says whether there is a cue at a place.
func (s *score) has(place int) bool { return place >= 0 && place < len(s.cues) }

// number returns the number of the cue at a place, 0 if there is none.
func (s *score) number(place int) int {
	if !s.has(place) {
		return 0
	}
	return s.cues[place].Number
}

// find returns the place of the cue with a number, or nowhere.
func (s *score) find(number int) int {
	return slices.IndexFunc(s.cues, func(c api.Cue) bool { return c.Number == number })
}

func cloneCurve(c api.Curve) api.Curve {
	return api.Curve{Kind: c.Kind, Points: append([]api.Point(nil), c.Points...)}
}
