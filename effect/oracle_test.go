package effect_test

import (
	"fmt"
	"math/big"
	"regexp"
	"slices"
	"strconv"
	"strings"

	"cyclorama/api"
	"cyclorama/fixture"
	"cyclorama/level"
)

// The rules of the chapter, written down a second time: with fractions, and with clocks that go millisecond by millisecond.

type rule struct {
	broken bool
	fault  api.Fault
}

// first returns the fault of the first rule that is broken.
func first(rules ...rule) api.Fault {
	for _, r := range rules {
		if r.broken {
			return r.fault
		}
	}
	return api.OK
}

func outside(n, least, most int) bool { return n < least || n > most }

// isAnyOutside says it of several numbers.
func isAnyOutside(least, most int, l ...int) bool {
	return slices.Min(l) < least || slices.Max(l) > most
}

func cycleOf(e api.Effect) int {
	cycle := e.Cycle
	for _, s := range e.Steps {
		cycle += s.Hold + s.Fade
	}
	return cycle
}

func effectFault(e api.Effect) api.Fault {
	isSteps := e.Form == 7
	rules := []rule{
		{outside(e.Form, 1, 7), api.ErrKind},
		{e.Width != 0 && e.Form != 4, api.ErrForm},
		{e.Cycle != 0 && isSteps, api.ErrForm},
		{len(e.Steps) != 0 && !isSteps, api.ErrForm},
		{isAnyOutside(0, 65535, e.Low, e.High), api.ErrRange},
		{e.Low > e.High, api.ErrRange},
		{!isSteps && outside(e.Cycle, 1, 3600000), api.ErrRange},
		{outside(e.Width, 0, 1000), api.ErrRange},
		{outside(e.Spread, -10000, 10000), api.ErrRange},
		{isSteps && len(e.Steps) == 0, api.ErrNone},
		{len(e.Steps) > 50, api.ErrLarge},
	}
	for _, s := range e.Steps {
		rules = append(rules, rule{outside(s.Level, 0, 65535) || isAnyOutside(0, 3600000, s.Hold, s.Fade), api.ErrRange})
	}
	return first(append(rules, rule{isSteps && outside(cycleOf(e), 1, 3600000), api.ErrRange})...)
}

// runningFault is the fault of a running effect where there are these keys, or, with none, any keys.
func runningFault(x api.Running, keys []api.Key) api.Fault {
	fault := effectFault(x.Effect)
	rules := []rule{
		{fault != api.OK, fault},
		{len(x.Keys) == 0, api.ErrNone},
		{len(x.Keys) > 400, api.ErrLarge},
	}
	for i, k := range x.Keys {
		rules = append(rules, rule{keys != nil && !slices.Contains(keys, k), api.ErrNone}, rule{slices.Contains(x.Keys[:i], k), api.ErrTwice})
	}
	rules = append(rules,
		rule{isAnyOutside(0, 36000000, x.Start, x.In, x.Out), api.ErrRange},
		rule{x.End != -1 && outside(x.End, x.Start, 36000000), api.ErrRange},
		rule{x.End == -1 && x.Out != 0, api.ErrForm},
		rule{len(x.Rates) > 50, api.ErrLarge},
	)
	for i, r := range x.Rates {
		rules = append(rules,
			rule{outside(r.Time, x.Start, 36000000) || outside(r.Percent, 0, 1000), api.ErrRange},
			rule{i > 0 && r.Time <= x.Rates[max(0, i-1)].Time, api.ErrOrder},
		)
	}
	return first(rules...)
}

func baseFault(l []api.Setting, keys []api.Key) api.Fault {
	var rules []rule
	for i, s := range l {
		isThere := func(other api.Setting) bool { return other.Key == s.Key }
		rules = append(rules,
			rule{!slices.Contains(keys, s.Key), api.ErrNone},
			rule{outside(s.Level, 0, 65535), api.ErrRange},
			rule{slices.ContainsFunc(l[:i], isThere), api.ErrTwice},
		)
	}
	return first(rules...)
}

func rat(a, b int) *big.Rat { return big.NewRat(int64(a), int64(b)) }

func plus(a, b *big.Rat) *big.Rat { return new(big.Rat).Add(a, b) }

func minus(a, b *big.Rat) *big.Rat { return new(big.Rat).Sub(a, b) }

func times(l ...*big.Rat) *big.Rat {
	product := rat(1, 1)
	for _, x := range l {
		product.Mul(product, x)
	}
	return product
}

// floor is the greatest whole number that is not greater.
func floor(x *big.Rat) int { return int(new(big.Int).Div(x.Num(), x.Denom()).Int64()) }

// rounded is the floor of a number plus 1/2, as G5 defines it.
func rounded(x *big.Rat) int { return floor(plus(x, rat(1, 2))) }

// wayOf is w of E3.
func wayOf(e api.Effect, index, count, clock int) *big.Rat {
	y := minus(rat(clock, 100*cycleOf(e)), rat(e.Spread*index, 1000*count))
	k := floor(y)
	x := minus(y, rat(k, 1))
	if e.Back && x.Sign() > 0 {
		x = minus(rat(1, 1), x)
	}
	u := times(rat(2, 1), x)
	if x.Cmp(rat(1, 2)) > 0 {
		u = minus(rat(2, 1), u)
	}
	switch e.Form {
	case 1:
		return u
	case 2:
		return x
	case 3:
		return minus(rat(1, 1), x)
	case 4:
		if x.Cmp(rat(e.Width, 1000)) < 0 {
			return rat(1, 1)
		}
		return rat(0, 1)
	case 5:
		return times(u, u, minus(rat(3, 1), times(rat(2, 1), u)))
	case 6:
		return rat(drawn(index, k), 65536)
	}
	return stepped(e.Steps, times(x, rat(cycleOf(e), 1)))
}

// drawn is h of E3.
func drawn(index, k int) int {
	wrap := new(big.Int).Lsh(big.NewInt(1), 64)
	number := func(text string) *big.Int {
		n, _ := new(big.Int).SetString(text, 10)
		return n
	}
	z := big.NewInt(int64(1000003*index + k + 20))
	z.Mod(z, wrap)
	z.Mul(z, number("11400714819323198485")).Mod(z, wrap)
	z.Xor(z, new(big.Int).Rsh(z, 29))
	z.Mul(z, number("13787848793156543929")).Mod(z, wrap)
	return int(z.Rsh(z, 48).Int64())
}

// stepped is the way of steps at a time, in milliseconds, of their cycle.
func stepped(l []api.EffectStep, at *big.Rat) *big.Rat {
	begin := 0
	for i, s := range l {
		next := l[0]
		if i+1 < len(l) {
			next = l[i+1]
		}
		if at.Cmp(rat(begin+s.Hold, 1)) < 0 {
			return rat(s.Level, 65535)
		}
		begin += s.Hold
		if at.Cmp(rat(begin+s.Fade, 1)) < 0 {
			slope := rat(next.Level-s.Level, s.Fade)
			return times(plus(rat(s.Level, 1), times(slope, minus(at, rat(begin, 1)))), rat(1, 65535))
		}
		begin += s.Fade
	}
	panic("beyond the last step")
}

// clockOf is the clock of E4.
func clockOf(x api.Running, t int) int {
	clock := 0
	for at := x.Start; at < t; at++ {
		percent := 100
		for _, r := range x.Rates {
			if r.Time <= at {
				percent = r.Percent
			}
		}
		clock += percent
	}
	return clock
}

// defaultOf is the Default of a key of a rig that has it.
func defaultOf(r api.Rig, k api.Key) int {
	p, _ := fixture.Find(r, k)
	return p.Default
}

// levelOf is the level that a running effect with a clock gives for key number i at a time.
func levelOf(x api.Running, i, base, t, clock int) int {
	size := rat(1, 1)
	if x.In > 0 && rat(t-x.Start, x.In).Cmp(size) < 0 {
		size = rat(t-x.Start, x.In)
	}
	if x.End != -1 && t > x.End {
		size = times(size, rat(x.End+x.Out-t, x.Out))
	}
	e := x.Effect
	to := plus(rat(e.Low, 1), times(rat(e.High-e.Low, 1), wayOf(e, i, len(x.Keys), clock)))
	b := rat(base, 1)
	if !e.Relative {
		return rounded(plus(b, times(minus(to, b), size)))
	}
	middle := rat(e.Low+e.High, 2)
	return min(max(0, rounded(plus(b, times(minus(to, middle), size)))), 65535)
}

// settingsOf are the settings of E5.
func settingsOf(r api.Rig, x api.Running, base []api.Setting, t int) []api.Setting {
	if t < x.Start || x.End != -1 && t >= x.End+x.Out {
		return nil
	}
	clock := clockOf(x, t)
	var l []api.Setting
	for i, k := range x.Keys {
		b := defaultOf(r, k)
		for _, s := range base {
			if s.Key == k {
				b = s.Level
			}
		}
		l = append(l, api.Setting{Key: k, Level: levelOf(x, i, b, t, clock)})
	}
	return l
}

// appliedOf are the settings of all effects, one after the other.
func appliedOf(r api.Rig, l []api.Running, base []api.Setting, t int) []api.Setting {
	now := slices.Clone(base)
	for _, x := range l {
		for _, s := range settingsOf(r, x, now, t) {
			i := slices.IndexFunc(now, func(other api.Setting) bool { return other.Key == s.Key })
			if i < 0 {
				now = append(now, s)
			} else {
				now[i] = s
			}
		}
	}
	return now
}

func printed(e api.Effect) string {
	show := func(n int) string {
		text, _ := level.Show(n)
		return text
	}
	text := fmt.Sprintf("%s from %s to %s", strings.Fields("triangle up down square soft chance steps")[e.Form-1], show(e.Low), show(e.High))
	if e.Form != 7 {
		text += fmt.Sprintf(" cycle %d", e.Cycle)
	}
	if e.Form == 4 {
		text += fmt.Sprintf(" width %d", e.Width)
	}
	if e.Spread != 0 {
		text += fmt.Sprintf(" spread %d", e.Spread)
	}
	if e.Back {
		text += " back"
	}
	if e.Relative {
		text += " relative"
	}
	for _, s := range e.Steps {
		text += fmt.Sprintf(" %s:%d:%d", show(s.Level), s.Hold, s.Fade)
	}
	return text
}

const (
	number = `(0|[1-9][0-9]{0,8})`
	behind = `(?: spread (-?[1-9][0-9]{0,8}))?( back)?( relative)?((?: [^\s:]*:[^\s:]*:[^\s:]*)*)$`
)

var (
	plainForm  = regexp.MustCompile(`^(triangle|up|down|soft|chance) from ([^ ]+) to ([^ ]+) cycle ` + number + `()` + behind)
	squareForm = regexp.MustCompile(`^(square) from ([^ ]+) to ([^ ]+) cycle ` + number + ` width ` + number + behind)
	stepsForm  = regexp.MustCompile(`^(steps) from ([^ ]+) to ([^ ]+)()()` + behind)
	stepForm   = regexp.MustCompile(`^([^:]+):` + number + `:` + number + `$`)
)

// readText is Read of E2.
func readText(text string) (api.Effect, api.Fault) {
	if len(text) > 4000 {
		return api.Effect{}, api.ErrLarge
	}
	var w []string
	for _, form := range []*regexp.Regexp{plainForm, squareForm, stepsForm} {
		if w == nil {
			w = form.FindStringSubmatch(text)
		}
	}
	if w == nil {
		return api.Effect{}, api.ErrSyntax
	}
	n := func(text string) int {
		n, _ := strconv.Atoi(text)
		return n
	}
	low, a := level.Read(w[2])
	high, b := level.Read(w[3])
	e := api.Effect{Form: slices.Index(strings.Fields("triangle up down square soft chance steps"), w[1]) + 1, Low: low, High: high, Cycle: n(w[4]), Width: n(w[5]), Spread: n(w[6]), Back: w[7] != "", Relative: w[8] != ""}
	ok := a == api.OK && b == api.OK
	for _, step := range strings.Fields(w[9]) {
		s := stepForm.FindStringSubmatch(step)
		if s == nil {
			return api.Effect{}, api.ErrSyntax
		}
		height, fault := level.Read(s[1])
		ok = ok && fault == api.OK
		e.Steps = append(e.Steps, api.EffectStep{Level: height, Hold: n(s[2]), Fade: n(s[3])})
	}
	if !ok {
		return api.Effect{}, api.ErrSyntax
	}
	if fault := effectFault(e); fault != api.OK {
		return api.Effect{}, fault
	}
	return e, api.OK
}
