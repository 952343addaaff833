package level_test

import (
	"fmt"
	"strings"
	"testing"

	"cyclorama/api"
	"cyclorama/level"
)

// longTable has n points that go up evenly, as far as thousandths do.
func longTable(n int) api.Curve {
	c := api.Curve{Kind: api.CurveTable}
	for i := range n {
		c.Points = append(c.Points, api.Point{Time: i * 1000 / (n - 1), Way: i * 1000 / (n - 1)})
	}
	return c
}

func badCurves() map[string]struct {
	c    api.Curve
	want api.Fault
} {
	points := []api.Point{{}, {Time: 1000, Way: 1000}}
	outside := longTable(api.MaxPoints + 1)
	outside.Points[4].Way = 1001
	return map[string]struct {
		c    api.Curve
		want api.Fault
	}{
		"kind 0":                     {api.Curve{}, api.ErrKind},
		"kind 7":                     {api.Curve{Kind: 7}, api.ErrKind},
		"kind -1":                    {api.Curve{Kind: -1, Points: points}, api.ErrKind},
		"kind ahead of points":       {api.Curve{Kind: 7, Points: points}, api.ErrKind},
		"a line with points":         {api.Curve{Kind: api.CurveLinear, Points: points}, api.ErrForm},
		"a step with a wrong point":  {api.Curve{Kind: api.CurveStep, Points: []api.Point{{Time: -1}}}, api.ErrForm},
		"no points":                  {table(), api.ErrNone},
		"one point":                  {table(0, 0), api.ErrNone},
		"one wrong point":            {table(-1, 0), api.ErrNone},
		"21 points":                  {longTable(api.MaxPoints + 1), api.ErrLarge},
		"21 points, one wrong":       {outside, api.ErrLarge},
		"time -1":                    {table(0, 0, -1, 0, 1000, 1000), api.ErrRange},
		"time 1001":                  {table(0, 0, 1001, 1000), api.ErrRange},
		"way -1":                     {table(0, -1, 1000, 1000), api.ErrRange},
		"way 1001":                   {table(0, 0, 1000, 1001), api.ErrRange},
		"range ahead of form":        {table(1, 0, 500, 1001, 1000, 1000), api.ErrRange},
		"range ahead of order":       {table(0, 0, 0, 0, 500, -1, 1000, 1000), api.ErrRange},
		"begins late":                {table(1, 0, 1000, 1000), api.ErrForm},
		"begins high":                {table(0, 1, 1000, 1000), api.ErrForm},
		"ends early":                 {table(0, 0, 999, 1000), api.ErrForm},
		"ends low":                   {table(0, 0, 1000, 999), api.ErrForm},
		"form ahead of order":        {table(0, 0, 500, 500, 400, 400, 1000, 999), api.ErrForm},
		"a time twice":               {table(0, 0, 500, 100, 500, 200, 1000, 1000), api.ErrOrder},
		"a time back":                {table(0, 0, 500, 100, 499, 200, 1000, 1000), api.ErrOrder},
		"a way back":                 {table(0, 0, 500, 100, 501, 99, 1000, 1000), api.ErrOrder},
		"the first time twice":       {table(0, 0, 0, 5, 1000, 1000), api.ErrOrder},
		"the last time twice":        {table(0, 0, 1000, 5, 1000, 1000), api.ErrOrder},
		"the last way is lower":      {table(0, 0, 1000, 1000, 1000, 1000), api.ErrOrder},
		"an early end, and on to it": {table(0, 0, 1000, 1000, 999, 1000, 1000, 1000), api.ErrOrder},
	}
}

func TestCheckCurve(t *testing.T) {
	for _, c := range append(curves(), longTable(api.MaxPoints), api.Curve{Kind: api.CurveSoft, Points: []api.Point{}}) {
		same(t, fmt.Sprint("CheckCurve ", c), level.CheckCurve(c), api.OK)
	}
	for name, c := range badCurves() {
		same(t, name, level.CheckCurve(c.c), c.want)
	}
}

func TestCurveErrorsComeFirst(t *testing.T) {
	for name, c := range badCurves() {
		same(t, "CurveText: "+name, results(level.CurveText(c.c)), results("", c.want))
		same(t, "Ease: "+name, results(level.Ease(c.c, 1, 2)), results(0, c.want))
		same(t, "Ease of nothing: "+name, results(level.Ease(c.c, -1, 0)), results(0, c.want))
		same(t, "Inverse: "+name, results(level.Inverse(c.c)), results(api.Curve{}, c.want))
	}
}

func TestCurveTexts(t *testing.T) {
	texts := map[string]api.Curve{
		"linear": linear, "slow": {Kind: api.CurveSlow}, "fast": {Kind: api.CurveFast}, "soft": {Kind: api.CurveSoft}, "step": {Kind: api.CurveStep},
		"table 0:0 500:100 1000:1000":          table(0, 0, 500, 100, 1000, 1000),
		"table 0:0 1:0 2:0 999:1000 1000:1000": table(0, 0, 1, 0, 2, 0, 999, 1000, 1000, 1000),
	}
	for text, c := range texts {
		same(t, "CurveText", results(level.CurveText(c)), results(text, api.OK))
		same(t, "ReadCurve", results(level.ReadCurve(text)), results(c, api.OK))
	}
	for _, c := range append(curves(), longTable(api.MaxPoints)) {
		text, x := level.CurveText(c)
		same(t, "CurveText", x, api.OK)
		same(t, "ReadCurve "+text, results(level.ReadCurve(text)), results(c, api.OK))
	}
}

func TestReadCurveErrors(t *testing.T) {
	long := "table" + strings.Repeat(" 0:0", api.MaxPoints+1)
	for text, want := range map[string]api.Fault{
		"table": api.ErrNone, "table 0:0": api.ErrNone, "table 5:7": api.ErrNone, long: api.ErrLarge,
		"table 0:0 1001:1000": api.ErrRange, "table 0:0 1000:999999999": api.ErrRange,
		"table 0:0 1000:999": api.ErrForm, "table 1:0 1000:1000": api.ErrForm,
		"table 0:0 0:0 1000:1000": api.ErrOrder, "table 0:0 500:500 600:499 1000:1000": api.ErrOrder,
	} {
		same(t, "ReadCurve "+text, results(level.ReadCurve(text)), results(api.Curve{}, want))
	}
	for _, text := range []string{
		"", " ", "Linear", "linear ", " linear", "linear\n", "line", "linear linear", "linear 0:0 1000:1000", "step 0:0", "soft table",
		"tables", "table ", "table  0:0 1000:1000", "table 0:0  1000:1000", "table 0:0 1000:1000 ", " table 0:0 1000:1000",
		"table 0", "table 0:0 1000", "table 0:0 1000:", "table 0:0 :1000", "table 0:0:0 1000:1000", "table 0 :0 1000:1000",
		"table 00:0 1000:1000", "table 0:00 1000:1000", "table 0:0 01000:1000", "table -1:0 1000:1000", "table 0:0 +5:5 1000:1000",
		"table 0:0 1.5:5 1000:1000", "table 0:0 1000:1000000000", "table 0:0,1000:1000", "table 0:0 1000:1000\n", long + " x", "table 0:0 a:b",
	} {
		same(t, fmt.Sprintf("ReadCurve %q", text), results(level.ReadCurve(text)), results(api.Curve{}, api.ErrSyntax))
	}
}

func TestEase(t *testing.T) {
	for _, c := range curves() {
		for _, whole := range []int{1, 2, 3, 7, 1000, 999999, api.MaxTime - 1, api.MaxTime} {
			for _, i := range []int{0, 1, 2, 3, 5, 250, 333, 334, 499, 500, 501, 750, 998, 999, 1000} {
				part := whole * i / 1000
				want := rounded(times(rat(api.Full, 1), wayOf(c, rat(part, whole))))
				same(t, fmt.Sprint("Ease ", c, " ", part, "/", whole), results(level.Ease(c, part, whole)), results(want, api.OK))
			}
			same(t, "Ease at the begin", results(level.Ease(c, 0, whole)), results(0, api.OK))
			same(t, "Ease at the end", results(level.Ease(c, whole, whole)), results(api.Full, api.OK))
		}
		for _, p := range [][2]int{{0, 0}, {0, -1}, {0, api.MaxTime + 1}, {-1, 1}, {2, 1}, {api.MaxTime + 1, api.MaxTime}} {
			same(t, fmt.Sprint("Ease ", p), results(level.Ease(c, p[0], p[1])), results(0, api.ErrRange))
		}
	}
	same(t, "Ease", results(level.Ease(api.Curve{Kind: api.CurveSoft}, 1, 2)), results(32768, api.OK))
	same(t, "Ease", results(level.Ease(api.Curve{Kind: api.CurveStep}, api.MaxTime-1, api.MaxTime)), results(0, api.OK))
	same(t, "Ease", results(level.Ease(table(0, 0, 500, 100, 1000, 1000), 3, 4)), results(36044, api.OK))
}

func TestInverse(t *testing.T) {
	for _, c := range curves() {
		back, x := level.Inverse(c)
		if c.Kind == api.CurveStep {
			same(t, "Inverse of a step", results(back, x), results(api.Curve{}, api.ErrForm))
			continue
		}
		same(t, "Inverse", x, api.OK)
		same(t, "CheckCurve of Inverse", level.CheckCurve(back), api.OK)
		for i := 0; i <= 3000; i++ {
			want := minus(rat(1, 1), wayOf(c, rat(3000-i, 3000)))
			if got := wayOf(back, rat(i, 3000)); got.Cmp(want) != 0 {
				t.Fatalf("Inverse of %v at %d: got %v, want %v", c, i, got, want)
			}
		}
		same(t, "Inverse of Inverse", results(level.Inverse(back)), results(c, api.OK))
	}
	same(t, "Inverse", results(level.Inverse(api.Curve{Kind: api.CurveSlow})), results(api.Curve{Kind: api.CurveFast}, api.OK))
	same(t, "Inverse", results(level.Inverse(table(0, 0, 500, 100, 1000, 1000))), results(table(0, 0, 500, 900, 1000, 1000), api.OK))
}

func TestInverseMemory(t *testing.T) {
	c := table(0, 0, 500, 100, 1000, 1000)
	back, _ := level.Inverse(c)
	for i := range back.Points {
		back.Points[i] = api.Point{Time: -1, Way: -1}
	}
	same(t, "the argument of Inverse", c, table(0, 0, 500, 100, 1000, 1000))
}
