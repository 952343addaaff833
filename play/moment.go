package play

import (
	"slices"

	"cyclorama/api"
)

// moment is all that is so at a time, when the action or follow with the number was the last one.
type moment struct {
	*plan
	time    int
	number  int
	grand   int
	black   bool
	players []player // by their numbers
}

// later returns the moment at a later time, with all follows up to it and at it. The earlier one stays as it is.
func (m moment) later(time int) moment {
	m.players = slices.Clone(m.players)
	for {
		p := m.nextDue()
		if p == nil || p.due() > time {
			break
		}
		m.time = p.due()
		m.number++
		m.goTo(p, p.place+1)
	}
	m.time = time
	return m
}

// nextDue returns the player that is the first one to go on by itself, or nil.
func (m *moment) nextDue() *player {
	var next *player
	for i := range m.players {
		p := &m.players[i]
		if p.due() != never && (next == nil || p.due() < next.due()) {
			next = p
		}
	}
	return next
}

// player returns the player with a number, or nil.
func (m *moment) player(number int) *player {
	for i := range m.players {
		if m.players[i].Number == number {
			return &m.players[i]
		}
	}
	return nil
}

// do carries out an action of which all is right but, perhaps, for the cue or the state of its player.
func (m *moment) do(a api.Action) api.Fault {
	m.number++
	switch a.Kind {
	case api.ActGrand:
		m.grand = a.Level
		return api.OK
	case api.ActBlack:
		m.black = a.Level == 1
		return api.OK
	}
	p := m.player(a.Playback)
	switch a.Kind {
	case api.ActGo:
		return m.goTo(p, p.place+1)
	case api.ActBack:
		return m.goTo(p, p.place-1)
	case api.ActJump:
		return m.goTo(p, p.find(a.Cue))
	case api.ActPause:
		return m.pause(p)
	case api.ActResume:
		return m.resume(p)
	case api.ActRelease:
		return m.release(p, a.Level)
	case api.ActFader:
		p.fader = a.Level
	}
	return api.OK
}

func (m *moment) pause(p *player) api.Fault {
	if p.stopped || p.place == nowhere {
		return api.ErrState
	}
	p.stop(m.time)
	return api.OK
}

func (m *moment) resume(p *player) api.Fault {
	if !p.stopped {
		return api.ErrState
	}
	p.goOn(m.time)
	return api.OK
}

// release lets a player go within a time.
func (m *moment) release(p *player, time int) api.Fault {
	if p.place == nowhere {
		return api.ErrState
	}
	p.goOn(m.time)
	runs := make([]*api.Run, len(p.tracks))
	for line, t := range p.tracks {
		if r := p.runAt(line, m.time); r != nil && isIntensity(t.param) {
			runs[line] = ended(r, p.at(m.time), 0, time, api.Curve{Kind: api.CurveLinear}, m.number)
		}
	}
	p.runs, p.place, p.follow = runs, nowhere, never
	return api.OK
}
