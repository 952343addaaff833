package play

import (
	"cyclorama/api"
	"cyclorama/level"
)

// CheckForm validates which fields of an action are used. Errors, in this order: ErrKind if there is no such kind; ErrForm if one that the kind does not use is not zero.
func CheckForm(a api.Action) api.Fault {
	switch {
	case a.Kind < api.ActGo || a.Kind > api.ActBlack:
		return api.ErrKind
	case !OfPlayback(a) && a.Playback != 0 || a.Kind != api.ActJump && a.Cue != 0 || !hasLevel(a) && a.Level != 0:
		return api.ErrForm
	}
	return api.OK
}

// OfPlayback says whether an action is one of a playback.
func OfPlayback(a api.Action) bool { return a.Kind != api.ActGrand && a.Kind != api.ActBlack }

// hasLevel says whether an action uses its Level.
func hasLevel(a api.Action) bool { return a.Kind >= api.ActRelease }

// CheckLevel validates the Level of an action whose form is right: ErrRange if it cannot have this one.
func CheckLevel(a api.Action) api.Fault {
	if !canLevel(a) {
		return api.ErrRange
	}
	return api.OK
}

func canLevel(a api.Action) bool {
	switch a.Kind {
	case api.ActRelease:
		return level.IsTime(a.Level)
	case api.ActBlack:
		return a.Level == 0 || a.Level == 1
	}
	// Others are 0 where they are not used.
	return level.IsLevel(a.Level)
}
