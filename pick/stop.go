package pick

import "cyclorama/api"

// stop is what a walk panics with where it cannot go on: it is many calls deep then, none of which has anything left to do.
type stop struct {
	fault api.Fault
	place int
}

// ended makes a walk and returns how it ended: with the zero stop, if it was not stopped.
func ended(walk func()) (how stop) {
	defer func() {
		if reason := recover(); reason != nil {
			how = reason.(stop)
		}
	}()
	walk()
	return stop{}
}
