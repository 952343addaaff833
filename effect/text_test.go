package effect_test

import (
	"fmt"
	"strings"
	"testing"

	"cyclorama/api"
	"cyclorama/effect"
)

// texts are texts with the effects that they are of.
func texts() map[string]api.Effect {
	full := api.Effect{High: api.Full, Cycle: 1000}
	form := func(n int, change func(e *api.Effect)) api.Effect {
		e := full
		e.Form = n
		return with(e, change)
	}
	nothing := func(e *api.Effect) {}
	return map[string]api.Effect{
		"triangle from out to full cycle 1000":             form(api.FormTriangle, nothing),
		"up from out to full cycle 1000":                   form(api.FormUp, nothing),
		"down from out to full cycle 1000":                 form(api.FormDown, nothing),
		"soft from out to full cycle 1000":                 form(api.FormSoft, nothing),
		"chance from out to full cycle 1000":               form(api.FormChance, nothing),
		"square from out to full cycle 1000 width 0":       form(api.FormSquare, nothing),
		"square from out to full cycle 1000 width 1000":    form(api.FormSquare, func(e *api.Effect) { e.Width = 1000 }),
		"square from #1 to 50% cycle 1 width 5":            form(api.FormSquare, func(e *api.Effect) { e.Low, e.High, e.Cycle, e.Width = 1, 32768, 1, 5 }),
		"triangle from full to full cycle 3600000":         form(api.FormTriangle, func(e *api.Effect) { e.Low, e.Cycle = api.Full, 3600000 }),
		"up from out to full cycle 1000 spread 1":          form(api.FormUp, func(e *api.Effect) { e.Spread = 1 }),
		"up from out to full cycle 1000 spread -1":         form(api.FormUp, func(e *api.Effect) { e.Spread = -1 }),
		"up from out to full cycle 1000 spread 10000":      form(api.FormUp, func(e *api.Effect) { e.Spread = 10000 }),
		"up from out to full cycle 1000 spread -10000":     form(api.FormUp, func(e *api.Effect) { e.Spread = -10000 }),
		"up from out to full cycle 1000 back":              form(api.FormUp, func(e *api.Effect) { e.Back = true }),
		"up from out to full cycle 1000 relative":          form(api.FormUp, func(e *api.Effect) { e.Relative = true }),
		"up from out to full cycle 1000 spread 7 relative": form(api.FormUp, func(e *api.Effect) { e.Spread, e.Relative = 7, true }),
		"square from 1% to 99% cycle 20 width 10 spread -2000 back relative": {
			Form: api.FormSquare, Low: 655, High: 64880, Cycle: 20, Width: 10, Spread: -2000, Back: true, Relative: true,
		},
		"steps from out to full full:100:0 out:50:50": steps(),
		"steps from out to out #7:0:1":                oneStep(7, 0, 1),
		"steps from out to out full:3600000:0":        oneStep(api.Full, 3600000, 0),
		"steps from out to full spread -50 back relative 50%:1:2 50%:1:2": {
			Form: api.FormSteps, High: api.Full, Spread: -50, Back: true, Relative: true, Steps: []api.EffectStep{{Level: 32768, Hold: 1, Fade: 2}, {Level: 32768, Hold: 1, Fade: 2}},
		},
		"steps from out to out" + strings.Repeat(" out:1:0", 50): manySteps(50),
	}
}

// TestTexts writes and reads texts (E2).
func TestTexts(t *testing.T) {
	for text, e := range texts() {
		same(t, "Text of "+text, results(effect.Text(e)), results(text, api.OK))
		same(t, "Read of "+text, results(effect.Read(text)), results(e, api.OK))
	}
}

// TestFreedom has texts that Read reads, though Text writes others (E2).
func TestFreedom(t *testing.T) {
	for text, want := range map[string]string{
		"up from 0% to 100% cycle 5":               "up from out to full cycle 5",
		"up from #0 to #65535 cycle 5":             "up from out to full cycle 5",
		"up from 33.33% to #32768 cycle 5":         "up from #21843 to 50% cycle 5",
		"steps from out to full 100%:1:0 0%:0:1":   "steps from out to full full:1:0 out:0:1",
		"steps from out to full #32768:1:0 #0:0:1": "steps from out to full 50%:1:0 out:0:1",
	} {
		e, fault := effect.Read(text)
		same(t, "Read of "+text, fault, api.OK)
		same(t, "Text of "+text, results(effect.Text(e)), results(want, api.OK))
	}
}

// TestWrongTexts has texts that cannot be read (E2).
func TestWrongTexts(t *testing.T) {
	l := []string{
		"", " ", "x", "triangle", "triangle ", "0", "1 from out to full cycle 5", "circle from out to full cycle 5", "Up from out to full cycle 5", " up from out to full cycle 5", "\tup from out to full cycle 5", "from out to full cycle 5", " from out to full cycle 5",
		"up\n", "up from", "up from out", "up from out to", "up from out to full", "up from out to full cycle", "up from out to full cycle ", "up to full from out cycle 5", "up from out full cycle 5", "up out to full cycle 5", "up from to full cycle 5", "up from out to cycle 5", "up From out to full cycle 5", "up from  out to full cycle 5",
		"up from 0 to full cycle 5", "up from out to 65535 cycle 5", "up from out to #65536 cycle 5", "up from -1% to full cycle 5", "up from 07% to full cycle 5", "up from out to 101% cycle 5", "up from out to Full cycle 5", "up from out: to full cycle 5",
		"up from out to full 5", "up from out to full cycle x", "up from out to full cycle 05", "up from out to full cycle -5", "up from out to full cycle +5", "up from out to full cycle 5.0", "up from out to full cycle 0.5", "up from out to full cycle 1234567890", "up from out to full cycle 5 cycle 5", "up from out to full cycle 5ms",
		"up from out to full cycle 5 ", "up from out to full cycle 5\n", "up from out to full cycle 5 x", "up from out to full cycle 5 width 5", "up from out to full cycle 5 width 0",
		"square from out to full cycle 5", "square from out to full width 5", "square from out to full width 5 cycle 5", "square from out to full cycle 5 width", "square from out to full cycle 5 width x", "square from out to full cycle 5 width 05", "square from out to full cycle 5 width -5", "square from out to full cycle 5 width 1234567890", "square from out to full cycle 5 width 5 width 5", "square from out to full cycle 5 spread 5 width 5",
		"steps from out to full cycle 5 out:1:1", "steps from out to full cycle 0 out:1:1", "steps from out to full width 0 out:1:1", "steps from out to full ", "steps from out to full out", "steps from out to full out:", "steps from out to full out:1", "steps from out to full out:1:", "steps from out to full out::1", "steps from out to full :1:1", "steps from out to full out:1:1:", "steps from out to full out:1:1:1", "steps from out to full out:1 1", "steps from out to full out :1:1",
		"steps from out to full 5:1:1", "steps from out to full #65536:1:1", "steps from out to full out:x:1", "steps from out to full out:1:x", "steps from out to full out:01:1", "steps from out to full out:1:01", "steps from out to full out:-1:1", "steps from out to full out:1:-1", "steps from out to full out:+1:1", "steps from out to full out:1.5:1", "steps from out to full out:1234567890:1", "steps from out to full out:1:1234567890", "steps from out to full out;1;1",
		"steps from out to full out:1:1 ", "steps from out to full  out:1:1", "steps from out to full out:1:1  out:1:1", "steps from out to full out:1:1\n", "steps from out to full out:1:1 x", "steps from out to full out:1:1 back", "steps from out to full out:1:1 relative", "steps from out to full out:1:1 spread 5", "steps from out to full out:1:1,out:1:1",
	}
	for _, options := range []string{
		"spread", "spread ", "spread 0", "spread -0", "spread x", "spread -", "spread 05", "spread -05", "spread +5", "spread --5", "spread - 5", "spread 5-", "spread 5.0", "spread 1234567890", "spread -1234567890", "spread 5 spread 5", "spread 5 5", "Spread 5", "spread  5",
		"back back", "Back", "back spread 5", "relative relative", "relative back", "relative spread 5", "Relative", "back  relative", "back 1", "no back", "forth",
	} {
		l = append(l, "up from out to full cycle 5 "+options, "steps from out to full "+options+" out:1:1")
	}
	for _, text := range l {
		same(t, "Read of "+text, results(effect.Read(text)), results(api.Effect{}, api.ErrSyntax))
	}
}

// TestReadFaults has texts of effects that are not right (E2).
func TestReadFaults(t *testing.T) {
	for text, want := range map[string]api.Fault{
		"up from 50% to 49% cycle 5":                       api.ErrRange,
		"up from out to full cycle 0":                      api.ErrRange,
		"up from out to full cycle 3600001":                api.ErrRange,
		"up from out to full cycle 999999999":              api.ErrRange,
		"square from out to full cycle 5 width 1001":       api.ErrRange,
		"square from out to full cycle 5 width 999999999":  api.ErrRange,
		"up from out to full cycle 5 spread 10001":         api.ErrRange,
		"up from out to full cycle 5 spread -10001":        api.ErrRange,
		"up from out to full cycle 5 spread -999999999":    api.ErrRange,
		"steps from out to full":                           api.ErrNone,
		"steps from out to full back":                      api.ErrNone,
		"steps from full to out":                           api.ErrRange,
		"steps from out to full out:0:0":                   api.ErrRange,
		"steps from out to full out:3600001:0":             api.ErrRange,
		"steps from out to full out:0:3600001":             api.ErrRange,
		"steps from out to full out:3600000:0 out:0:1":     api.ErrRange,
		"steps from out to full out:999999999:0":           api.ErrRange,
		"up from out to full cycle 5 out:1:1":              api.ErrForm,
		"square from full to out cycle 5 width 5 out:1:1":  api.ErrForm,
		"steps from out to full 50%:1:1 25%:1:1 1%:1:1 x":  api.ErrSyntax,
		"steps from full to out" + many(51):                api.ErrRange,
		"steps from out to full" + many(51):                api.ErrLarge,
		"steps from out to full" + many(51) + " x":         api.ErrSyntax,
		"steps from out to full back" + many(50) + " back": api.ErrSyntax,
	} {
		same(t, "Read of "+text, results(effect.Read(text)), results(api.Effect{}, want))
	}
}

// many is the text of n steps.
func many(n int) string { return strings.Repeat(" out:1:1", n) }

// TestTextLimit looks at texts with as many bytes as there can be, and one more (E2).
func TestTextLimit(t *testing.T) {
	// There are too many steps, but the levels from full to out are wrong ahead of that.
	right := "steps from full to out" + many(497)
	for _, c := range []struct {
		text   string
		length int
		want   api.Fault
	}{
		{strings.Repeat("x", 4000), 4000, api.ErrSyntax},
		{strings.Repeat("x", 4001), 4001, api.ErrLarge},
		{right + "0", 3999, api.ErrRange},
		{right + "00", 4000, api.ErrRange},
		{right + " x", 4000, api.ErrSyntax},
		{right + "000", 4001, api.ErrLarge},
		{right + " 1%", 4001, api.ErrLarge},
	} {
		same(t, "the length", len(c.text), c.length)
		same(t, fmt.Sprintf("Read of %d bytes, which end with %q", c.length, c.text[3990:]), results(effect.Read(c.text)), results(api.Effect{}, c.want))
	}
	// The longest text that an effect can have is still short.
	long := api.Effect{Form: api.FormSteps, Low: 65533, High: 65534, Spread: -10000, Back: true, Relative: true}
	for range 50 {
		long.Steps = append(long.Steps, api.EffectStep{Level: 65534, Hold: 10000, Fade: 10000})
	}
	text := "steps from #65533 to #65534 spread -10000 back relative" + strings.Repeat(" #65534:10000:10000", 50)
	same(t, "Text of the longest effect", results(effect.Text(long)), results(text, api.OK))
	same(t, "Read of the longest effect", results(effect.Read(text)), results(long, api.OK))
}
