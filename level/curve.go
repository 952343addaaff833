package level

import (
	"slices"
	"strconv"
	"strings"

	"cyclorama/api"
	"cyclorama/decimal"
)

// thousand is where the points of a table end, in time and in way.
const thousand = 1000

// CheckCurve says what is wrong with a curve.
func CheckCurve(c api.Curve) api.Fault {
	switch {
	case c.Kind < api.CurveLinear || c.Kind > api.CurveTable:
		return api.ErrKind
	case c.Kind == api.CurveTable:
		return checkPoints(c.Points)
	case len(c.Points) > 0:
		return api.ErrForm
	}
	return api.OK
}

func checkPoints(l []api.Point) api.Fault {
	outside := func(p api.Point) bool {
		return p.Time < 0 || p.Time > thousand || p.Way < 0 || p.Way > thousand
	}
	switch {
	case len(l) < 2:
		return api.ErrNone
	case len(l) > api.MaxPoints:
		return api.ErrLarge
	case slices.ContainsFunc(l, outside):
		return api.ErrRange
	case l[0] != api.Point{} || l[len(l)-1] != api.Point{Time: thousand, Way: thousand}:
		return api.ErrForm
	}
	for i := 1; i < len(l); i++ {
		if l[i].Time <= l[i-1].Time || l[i].Way < l[i-1].Way {
			return api.ErrOrder
		}
	}
	return api.OK
}

func kindWord(kind int) string {
	switch kind {
	case api.CurveLinear:
		return "linear"
	case api.CurveSlow:
		return "slow"
	case api.CurveFast:
		return "fast"
	case api.CurveSoft:
		return "soft"
	case api.CurveStep:
		return "step"
	}
	return "table"
}

// CurveText returns the text of a curve.
func CurveText(c api.Curve) (string, api.Fault) {
	if x := CheckCurve(c); x != api.OK {
		return "", x
	}
	text := kindWord(c.Kind)
	for _, p := range c.Points {
		text += " " + strconv.Itoa(p.Time) + ":" + strconv.Itoa(p.Way)
	}
	return text, api.OK
}

// ReadCurve returns the curve of a text as CurveText writes it.
func ReadCurve(text string) (api.Curve, api.Fault) {
	c, ok := parseCurve(text)
	if !ok {
		return api.Curve{}, api.ErrSyntax
	}
	if x := CheckCurve(c); x != api.OK {
		return api.Curve{}, x
	}
	return c, api.OK
}

func parseCurve(text string) (api.Curve, bool) {
	words := strings.Split(text, " ")
	for kind := api.CurveLinear; kind <= api.CurveTable; kind++ {
		if words[0] != kindWord(kind) {
			continue
		}
		points, ok := parsePoints(words[1:])
		return api.Curve{Kind: kind, Points: points}, ok && (kind == api.CurveTable || len(words) == 1)
	}
	return api.Curve{}, false
}

func parsePoints(words []string) ([]api.Point, bool) {
	var l []api.Point
	for _, word := range words {
		before, after, _ := strings.Cut(word, ":")
		time, timeOK := decimal.Number(before)
		way, wayOK := decimal.Number(after)
		if !timeOK || !wayOK {
			return nil, false
		}
		l = append(l, api.Point{Time: time, Way: way})
	}
	return l, true
}

// Ease returns the way done after part / whole of the time, in levels.
func Ease(c api.Curve, part, whole int) (int, api.Fault) {
	if x := CheckCurve(c); x != api.OK {
		return 0, x
	}
	if !IsPart(part, whole) {
		return 0, api.ErrRange
	}
	return shape(c)(part, whole).of(api.Full), api.OK
}

// Inverse returns the curve that goes the way back.
func Inverse(c api.Curve) (api.Curve, api.Fault) {
	if x := CheckCurve(c); x != api.OK {
		return api.Curve{}, x
	}
	back := api.Curve{Kind: c.Kind}
	switch c.Kind {
	case api.CurveStep:
		return api.Curve{}, api.ErrForm
	case api.CurveSlow:
		back.Kind = api.CurveFast
	case api.CurveFast:
		back.Kind = api.CurveSlow
	case api.CurveTable:
		for _, p := range slices.Backward(c.Points) {
			back.Points = append(back.Points, api.Point{Time: thousand - p.Time, Way: thousand - p.Way})
		}
	}
	return back, api.OK
}

// copied returns a curve that shares no memory with c.
func copied(c api.Curve) api.Curve {
	return api.Curve{Kind: c.Kind, Points: append([]api.Point(nil), c.Points...)}
}

// shape returns what a curve, which must be right, does: the way done after part / whole of the time.
func shape(c api.Curve) func(part, whole int) ratio {
	switch c.Kind {
	case api.CurveSlow:
		return slow
	case api.CurveFast:
		return func(part, whole int) ratio { return slow(whole-part, whole).rest() }
	case api.CurveSoft:
		return func(part, whole int) ratio {
			return ratio{product(part*part, 3*whole-2*part), product(whole*whole, whole)}
		}
	case api.CurveStep:
		return func(part, whole int) ratio { return share(part/whole, 1) }
	case api.CurveTable:
		return func(part, whole int) ratio { return along(c.Points, part, whole) }
	}
	return share
}

func slow(part, whole int) ratio {
	return ratio{product(part, part), product(whole, whole)}
}

// along returns the way on the straight lines between the points of a table.
func along(l []api.Point, part, whole int) ratio {
	next := 1
	for l[next].Time*whole < thousand*part {
		next++
	}
	a, b := l[next-1], l[next]
	run := b.Time - a.Time
	beyond := thousand*part - a.Time*whole
	return share(a.Way*run*whole+(b.Way-a.Way)*beyond, thousand*run*whole)
}
