package effect

import (
	"cyclorama/api"
	"cyclorama/fixture"
	"cyclorama/level"
)

// look is the levels of keys of a rig, with the order in which they came.
type look struct {
	params map[api.Key]api.Param
	order  []api.Key
	levels map[api.Key]int
}

// lookAt returns the look that base is, if running effects on a rig can be put into it at a time.
func lookAt(r api.Rig, l []api.Running, base []api.Setting, t int) (*look, api.Fault) {
	params, fault := fixture.Params(r)
	if fault != api.OK {
		return nil, fault
	}
	if len(l) > api.MaxRunning {
		return nil, api.ErrLarge
	}
	known := keysOf(params)
	for _, x := range l {
		if fault := checkRunning(x, known); fault != api.OK {
			return nil, fault
		}
	}
	levels, fault := fixture.LevelsOf(base, known)
	if fault != api.OK {
		return nil, fault
	}
	if !level.IsTime(t) {
		return nil, api.ErrRange
	}
	now := &look{params: params, levels: levels}
	for _, s := range base {
		now.order = append(now.order, s.Key)
	}
	return now, api.OK
}

// level returns the level of a key, which is its Default without another one.
func (l *look) level(k api.Key) int {
	if n, there := l.levels[k]; there {
		return n
	}
	return l.params[k].Default
}

func (l *look) put(s api.Setting) {
	if _, there := l.levels[s.Key]; !there {
		l.order = append(l.order, s.Key)
	}
	l.levels[s.Key] = s.Level
}

// settings returns all levels that there are.
func (l *look) settings() []api.Setting {
	settings := make([]api.Setting, len(l.order))
	for i, k := range l.order {
		settings[i] = api.Setting{Key: k, Level: l.levels[k]}
	}
	return settings
}

// Settings returns the settings that a running effect gives at a time.
func Settings(r api.Rig, x api.Running, base []api.Setting, t int) ([]api.Setting, api.Fault) {
	now, fault := lookAt(r, []api.Running{x}, base, t)
	if fault != api.OK {
		return nil, fault
	}
	return given(x, now, t), api.OK
}

// Apply returns settings into which those of running effects are put, one effect after the other.
func Apply(r api.Rig, l []api.Running, base []api.Setting, t int) ([]api.Setting, api.Fault) {
	now, fault := lookAt(r, l, base, t)
	if fault != api.OK {
		return nil, fault
	}
	for _, x := range l {
		for _, s := range given(x, now, t) {
			now.put(s)
		}
	}
	return now.settings(), api.OK
}

// given returns the settings that a running effect makes of a look at a time.
func given(x api.Running, base *look, t int) []api.Setting {
	if t < x.Start || ends(x) && t >= x.End+x.Out {
		return nil
	}
	c := courseOf(x.Effect, len(x.Keys), clockAt(x, t))
	size := sizeAt(x, t)
	settings := make([]api.Setting, len(x.Keys))
	for i, k := range x.Keys {
		settings[i] = api.Setting{Key: k, Level: moved(x.Effect, base.level(k), c.way(i), size)}
	}
	return settings
}

// sizeAt returns how far a running effect is faded in and out at a time at which it gives settings.
func sizeAt(x api.Running, t int) fraction {
	size := of(1)
	if t-x.Start < x.In {
		size = share(t-x.Start, x.In)
	}
	if ends(x) && t > x.End {
		size = size.times(share(x.End+x.Out-t, x.Out))
	}
	return size
}

// moved returns the level to which an effect of a size moves a base by a way.
func moved(e api.Effect, base int, way, size fraction) int {
	from := of(base)
	if e.Relative {
		from = share(e.Low+e.High, 2)
	}
	to := of(e.Low).plus(of(e.High - e.Low).times(way))
	moved := of(base).plus(to.minus(from).times(size))
	// Only relative effects can go beyond the levels that there are.
	if moved.isNegative() {
		return 0
	}
	return min(moved.rounded(), api.Full)
}
