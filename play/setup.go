package play

import (
	"cyclorama/api"
	"cyclorama/cue"
	"cyclorama/fixture"
	"cyclorama/pick"
)

// CheckSetup validates a setup.
func CheckSetup(s api.Setup) api.Fault {
	if fault := pick.CheckPresets(s.Rig, s.Presets); fault != api.OK {
		return fault
	}
	if fault := checkLists(s); fault != api.OK {
		return fault
	}
	return checkPlaybacks(s)
}

func checkLists(s api.Setup) api.Fault {
	if len(s.Lists) > api.MaxLists {
		return api.ErrLarge
	}
	ahead := 0
	for _, l := range s.Lists {
		if fault := checkNumber(l.Number, ahead, api.MaxGroup); fault != api.OK {
			return fault
		}
		if fault := cue.CheckList(s.Rig, s.Presets, l.Cues); fault != api.OK {
			return fault
		}
		ahead = l.Number
	}
	return api.OK
}

func checkPlaybacks(s api.Setup) api.Fault {
	if len(s.Playbacks) > api.MaxPlaybacks {
		return api.ErrLarge
	}
	there := map[int]bool{}
	for _, l := range s.Lists {
		there[l.Number] = true
	}
	ahead := 0
	for _, p := range s.Playbacks {
		if fault := checkNumber(p.Number, ahead, api.MaxPlaybacks); fault != api.OK {
			return fault
		}
		if !there[p.List] {
			return api.ErrNone
		}
		if p.Priority < 0 || p.Priority > api.MaxPriority {
			return api.ErrRange
		}
		ahead = p.Number
	}
	return api.OK
}

// checkNumber validates a number from 1 to most, behind the number ahead.
func checkNumber(n, ahead, most int) api.Fault {
	switch {
	case n < 1 || n > most:
		return api.ErrRange
	case n <= ahead:
		return api.ErrOrder
	}
	return api.OK
}

// plan is what a desk plays, which no action changes: the keys of the rig, in their order, and their parameters.
type plan struct {
	keys   []api.Key
	params map[api.Key]api.Param
}

// planOf returns the plan of a rig that is right.
func planOf(r api.Rig) *plan {
	keys, _ := fixture.Keys(r)
	params, _ := fixture.Params(r)
	return &plan{keys, params}
}

func isIntensity(p api.Param) bool { return p.Group == api.Intensity }

// players returns the players of the playbacks of a setup that is right.
func (p *plan) players(s api.Setup) []player {
	scores := map[int]*score{}
	for _, l := range s.Lists {
		scores[l.Number] = p.score(s.Presets, l.Cues)
	}
	players := make([]player, len(s.Playbacks))
	for i, b := range s.Playbacks {
		played := scores[b.List]
		players[i] = player{Playback: b, score: played, place: nowhere, follow: never, fader: api.Full, runs: make([]*api.Run, len(played.tracks))}
	}
	return players
}
