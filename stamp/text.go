package stamp

import (
	"strconv"

	"cyclorama/api"
)

// Show returns the text of a stamp.
func Show(rate int, s api.Stamp) (string, api.Fault) {
	_, p, fault := counted(rate, s)
	if fault != api.OK {
		return "", fault
	}
	return p.show(s), api.OK
}

// show returns the text of a stamp that is right.
func (p pace) show(s api.Stamp) string {
	return twoDigits(s.Hours) + ":" + twoDigits(s.Minutes) + ":" + twoDigits(s.Seconds) + p.mark() + twoDigits(s.Frames)
}

// mark is what stands ahead of the frames.
func (p pace) mark() string {
	if p.dropped > 0 {
		return ";"
	}
	return ":"
}

func twoDigits(n int) string { return strconv.Itoa(100 + n)[1:] }

// Read returns the stamp of a text as Show writes it.
func Read(rate int, text string) (api.Stamp, api.Fault) {
	p, fault := paceOf(rate)
	if fault != api.OK {
		return api.Stamp{}, fault
	}
	return p.read(text)
}

func (p pace) read(text string) (api.Stamp, api.Fault) {
	s, ok := p.parse(text)
	if !ok {
		return api.Stamp{}, api.ErrSyntax
	}
	if fault := p.check(s); fault != api.OK {
		return api.Stamp{}, fault
	}
	return s, api.OK
}

// parse returns the stamp of a text, whose parts need not be such as stamps have.
func (p pace) parse(text string) (api.Stamp, bool) {
	if len(text) != len("HH:MM:SS:FF") {
		return api.Stamp{}, false
	}
	two := func(at int) int { return 10*int(text[at]-'0') + int(text[at+1]-'0') }
	s := api.Stamp{Hours: two(0), Minutes: two(3), Seconds: two(6), Frames: two(9)}
	// Where no digit or another mark stands, the stamp has another text.
	return s, p.show(s) == text
}
