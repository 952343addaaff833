package play

import (
	"cyclorama/api"
	"cyclorama/level"
)

// voice is what a player says of a key, and how much it counts: by its priority, then by its strength.
type voice struct {
	owner              int
	level              int
	priority, strength int
}

// beats says whether a voice counts more than one of a player with a lower number.
func (v voice) beats(w voice) bool {
	if v.priority != w.priority {
		return v.priority > w.priority
	}
	return v.strength > w.strength
}

// voice returns the voice that counts for a key, which is nobody's if no player drives it.
func (m *moment) voice(k api.Key) voice {
	best := voice{level: m.params[k].Default}
	for i := range m.players {
		v, drives := m.voiceOf(&m.players[i], k)
		if drives && (best.owner == 0 || v.beats(best)) {
			best = v
		}
	}
	return best
}

// voiceOf returns what a player says of a key, if it drives it.
func (m *moment) voiceOf(p *player, k api.Key) (voice, bool) {
	r := p.run(k, m.time)
	if r == nil {
		return voice{}, false
	}
	n := levelAt(r.Fade, p.at(m.time))
	v := voice{owner: p.Number, level: n, priority: p.Priority, strength: r.Claim}
	if isIntensity(m.params[k]) {
		v.level = scaled(n, p.fader)
		v.strength = v.level
	}
	return v, true
}

// level returns the level of a key.
func (m *moment) level(k api.Key) int {
	n := m.voice(k).level
	switch {
	case !isIntensity(m.params[k]):
		return n
	case m.black:
		return 0
	}
	return scaled(n, m.grand)
}

// scaled returns level.Scale of levels, which has no fault for them.
func scaled(a, b int) int {
	n, _ := level.Scale(a, b)
	return n
}
