package play_test

import (
	"testing"

	"cyclorama/api"
)

// TestRelease looks at what is left of a playback that is let go (P4).
func TestRelease(t *testing.T) {
	const list = "cue 1 delay 1 up 0.1 down 5 curve slow\n  1.dim full\n  1.flash full\n  1.pan full\n  3.dim out\n" +
		"cue 2 delay 2 down 5 curve slow\n  1.dim release\n" +
		"cue 3\n  1.dim full\n"
	s := setup(t, list)
	d := replay(t, s, goes(0, 1), release(1050, 1, 200))
	runs := []api.Run{ending(dim, 16384, 1050, 0, 200, 2), ending(flash, api.Full, 1050, 0, 200, 2), ending(house, 0, 1050, 0, 200, 2)}
	stands(t, d, 1, 1050, 0, -1, runs...)
	stands(t, d, 1, 1249, 0, -1, runs...)
	stands(t, d, 1, 1250, 0, -1)
	levels(t, d, dim, 1050, 16384, 1150, 8192, 1249, 82, 1250, 0)
	levels(t, d, house, 1249, 0, 1250, 40000)
	levels(t, d, pan, 1050, 500)
	same(t, "Rest", results(d.Rest(1, 1100)), results(150, api.OK))
	same(t, "release again", d.Do(release(1100, 1, 200)), api.ErrState)
	// It begins with the first cue again: intensities from where they are.
	same(t, "go", d.Do(goes(1150, 1)), api.OK)
	slow := func(r api.Run) api.Run {
		r.Fade.Curve = curve(api.CurveSlow)
		return r
	}
	stands(t, d, 1, 1150, 1000, -1,
		slow(run(dim, 8192, api.Full, 1150, 1000, 100, 3)), slow(run(flash, 32768, api.Full, 1150, 1000, 0, 3)),
		slow(run(pan, 500, api.Full, 1150, 1000, 0, 3)), slow(run(house, 0, 0, 1150, 1000, 100, 3)))
	// What is ending already gets the time of the release, too.
	d = replay(t, s, goes(0, 1), goes(1100, 1), release(1200, 1, 70))
	stands(t, d, 1, 1200, 0, -1, ending(dim, api.Full, 1200, 0, 70, 3), ending(flash, api.Full, 1200, 0, 70, 3), ending(house, 0, 1200, 0, 70, 3))
	// Without a time all is gone.
	d = replay(t, s, goes(0, 1), release(1050, 1, 0))
	stands(t, d, 1, 1050, 0, -1)
	levels(t, d, dim, 1050, 0)
	// What has ended stays so.
	d = replay(t, s, goes(0, 1), goes(1, 1), release(7001, 1, 70))
	stands(t, d, 1, 7001, 0, -1, ending(flash, api.Full, 7001, 0, 70, 3), ending(house, 0, 7001, 0, 70, 3))
}

// TestStoppedEnds looks at runs that are ending while the clock is stopped (P4).
func TestStoppedEnds(t *testing.T) {
	d := replay(t, setup(t, "cue 1\n  1.dim full\ncue 2 down 0.1\n  1.dim release\n"), goes(0, 1), goes(10, 1), pause(60, 1))
	stands(t, d, 1, 9999, 2000, -1, ending(dim, api.Full, 10, 0, 100, 2))
	levels(t, d, dim, 9999, 32768)
	same(t, "Owner", results(d.Owner(dim, 9999)), results(1, api.OK))
	same(t, "resume", d.Do(resume(10000, 1)), api.OK)
	stands(t, d, 1, 10049, 2000, -1, ending(dim, api.Full, 10, 0, 100, 2))
	stands(t, d, 1, 10050, 2000, -1)
	same(t, "Owner", results(d.Owner(dim, 10050)), results(0, api.OK))
}
