package play

// clock goes as the time does while it is not stopped: at the time since, it showed shown. It begins with 0 at 0.
type clock struct {
	since, shown int
	stopped      bool
}

// at returns what a clock shows at a time from since on.
func (c clock) at(time int) int {
	if c.stopped {
		return c.shown
	}
	return c.shown + time - c.since
}

// when returns the time at which a clock that goes comes to show a number.
func (c clock) when(shown int) int { return c.since + shown - c.shown }

func (c *clock) stop(time int) { *c = clock{time, c.at(time), true} }

func (c *clock) goOn(time int) { *c = clock{time, c.at(time), false} }
