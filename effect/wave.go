package effect

import "cyclorama/api"

// wave is what a form does: the way, from 0 to 1, that a unit has at a place of the cycle.
type wave interface {
	way(p place) fraction
}

func waveOf(e api.Effect) wave {
	switch e.Form {
	case api.FormUp:
		return up{}
	case api.FormDown:
		return down{}
	case api.FormSquare:
		return square{e.Width}
	case api.FormSoft:
		return soft{}
	case api.FormChance:
		return chance{}
	case api.FormSteps:
		return stepsOf(e)
	}
	return triangle{}
}

type triangle struct{}

func (triangle) way(p place) fraction {
	if 2*p.part <= p.whole {
		return share(2*p.part, p.whole)
	}
	return share(2*(p.whole-p.part), p.whole)
}

type up struct{}

func (up) way(p place) fraction { return share(p.part, p.whole) }

type down struct{}

func (down) way(p place) fraction { return share(p.whole-p.part, p.whole) }

type square struct{ width int }

func (s square) way(p place) fraction {
	if p.part*api.MaxPart < s.width*p.whole {
		return of(1)
	}
	return of(0)
}

type soft struct{}

func (soft) way(p place) fraction {
	u := triangle{}.way(p)
	return u.times(u).times(of(3).minus(of(2).times(u)))
}

type chance struct{}

func (chance) way(p place) fraction {
	z := 1000003*uint64(p.index) + uint64(p.turn) + 20
	z *= 11400714819323198485
	z = 13787848793156543929 * (z ^ z>>29)
	return share(int(z>>48), 1<<16)
}

// line is a straight way from a level to another one.
type line struct{ from, to, time int }

// steps are the lines of a cycle, one behind the other.
type steps struct {
	lines []line
	cycle int
}

func stepsOf(e api.Effect) steps {
	s := steps{cycle: cycleOf(e)}
	for i, one := range e.Steps {
		next := e.Steps[(i+1)%len(e.Steps)]
		s.lines = append(s.lines, line{one.Level, one.Level, one.Hold}, line{one.Level, next.Level, one.Fade})
	}
	return s
}

func (s steps) way(p place) fraction {
	unit := p.whole / s.cycle // parts of the place for each millisecond
	i, part := 0, p.part
	for part >= s.lines[i].time*unit {
		part -= s.lines[i].time * unit
		i++
	}
	l := s.lines[i]
	return share(l.from, api.Full).plus(share(l.to-l.from, api.Full).times(share(part, l.time*unit)))
}
