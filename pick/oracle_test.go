package pick_test

import (
	"fmt"
	"math/big"
	"regexp"
	"slices"
	"strconv"

	"cyclorama/api"
	"cyclorama/fixture"
)

// The rules of the chapter, written down a second time.

func size(p api.Pick) int {
	n := 1
	for _, arg := range p.Args {
		n += size(arg)
	}
	return n
}

func levelsOf(p api.Pick) int {
	most := 0
	for _, arg := range p.Args {
		most = max(most, levelsOf(arg))
	}
	return most + 1
}

func pickFault(p api.Pick) api.Fault {
	if size(p) > 200 || levelsOf(p) > 12 {
		return api.ErrLarge
	}
	return partFault(p)
}

func partFault(p api.Pick) api.Fault {
	out := func(n, most int) bool { return n < 1 || n > most }
	form, outside := true, false
	switch p.Kind {
	case api.PickUnits:
		form, outside = len(p.Args) == 0, out(p.From, 9999) || out(p.To, 9999)
	case api.PickGroup, api.PickPreset:
		form, outside = p.To == 0 && len(p.Args) == 0, out(p.From, 999)
	case api.PickJoin:
		form = p.From == 0 && p.To == 0 && len(p.Args) >= 2
	case api.PickLess:
		form = p.From == 0 && p.To == 0 && len(p.Args) == 2
	case api.PickOdd, api.PickEven, api.PickBack:
		form = p.From == 0 && p.To == 0 && len(p.Args) == 1
	case api.PickEvery:
		form, outside = len(p.Args) == 1, out(p.From, 9999) || out(p.To, 9999)
	default:
		return api.ErrKind
	}
	if !form {
		return api.ErrForm
	}
	if outside {
		return api.ErrRange
	}
	for _, arg := range p.Args {
		if fault := partFault(arg); fault != api.OK {
			return fault
		}
	}
	return api.OK
}

// printed is the text of a right selection.
func printed(p api.Pick) string { return printedWith(p, func(text string) string { return text }) }

// printedWith is a text of a right selection in which other changes the text of each part, where more brackets can stand.
func printedWith(p api.Pick, other func(text string) string) string {
	compound := func(q api.Pick) bool { return q.Kind == api.PickJoin || q.Kind == api.PickLess }
	bracketed := func(q api.Pick) string {
		text := printedWith(q, other)
		if compound(q) {
			text = "(" + text + ")"
		}
		return other(text)
	}
	switch p.Kind {
	case api.PickUnits:
		if p.From == p.To {
			return fmt.Sprint(p.From)
		}
		return fmt.Sprintf("%d thru %d", p.From, p.To)
	case api.PickGroup:
		return fmt.Sprintf("group %d", p.From)
	case api.PickPreset:
		return fmt.Sprintf("preset %d", p.From)
	case api.PickJoin, api.PickLess:
		sign := map[int]string{api.PickJoin: " + ", api.PickLess: " - "}[p.Kind]
		text := bracketed(p.Args[0])
		if compound(p.Args[0]) && (p.Kind == api.PickLess || p.Args[0].Kind == api.PickLess) {
			text = printedWith(p.Args[0], other)
		}
		for _, arg := range p.Args[1:] {
			text += sign + bracketed(arg)
		}
		return text
	case api.PickEvery:
		return fmt.Sprintf("every %d from %d %s", p.From, p.To, bracketed(p.Args[0]))
	}
	word := map[int]string{api.PickOdd: "odd ", api.PickEven: "even ", api.PickBack: "back "}[p.Kind]
	return word + bracketed(p.Args[0])
}

// frame is an open bracket (its Kind is 0) or a prefix, and what was read within it.
type frame struct {
	prefix api.Pick
	read   *api.Pick
	sign   int
	row    bool
}

// add puts a part behind a sign of a bracket.
func (f *frame) add(p api.Pick) {
	switch {
	case f.read == nil:
		f.read = &p
	case f.sign == api.PickJoin && f.row:
		f.read.Args = append(f.read.Args, p)
	default:
		f.read = &api.Pick{Kind: f.sign, Args: []api.Pick{*f.read, p}}
	}
	f.row = f.sign == api.PickJoin
}

// scan goes through a text from word to word, without calls within calls. Behind a wrong word it reads no further.
type scan struct {
	text   string
	places [][]int // from and to of words
	at     int
	wrong  bool
	frames []frame // the first one is the whole text
}

func (s *scan) top() *frame { return &s.frames[len(s.frames)-1] }

func isRow(b byte) bool { return b >= 'a' && b <= 'z' || b >= '0' && b <= '9' }

// now returns the word that comes, "" at the end, or "?" for one that touches another one.
func (s *scan) now() string {
	from, to := s.places[s.at][0], s.places[s.at][1]
	if s.at > 0 && from < to && s.places[s.at-1][1] == from && isRow(s.text[from]) && isRow(s.text[from-1]) {
		return "?"
	}
	return s.text[from:to]
}

// word reads a word, if it is this one.
func (s *scan) word(w string) bool {
	if s.wrong || s.now() != w {
		return false
	}
	s.at++
	return true
}

var numberForm = regexp.MustCompile(`^(0|[1-9][0-9]{0,8})$`)

func (s *scan) number() int {
	if s.wrong || !numberForm.MatchString(s.now()) {
		s.wrong = true
		return 0
	}
	n, _ := strconv.Atoi(s.now())
	s.at++
	return n
}

// units reads a PickUnits.
func (s *scan) units() api.Pick {
	p := one(s.number())
	if s.word("thru") {
		p.To = s.number()
		if !s.wrong && p.To == p.From {
			s.at--
			s.wrong = true
		}
	}
	return p
}

// begin reads the beginning of a part up to its end, or opens a frame (false).
func (s *scan) begin() (api.Pick, bool) {
	prefixes := map[string]int{"odd": api.PickOdd, "even": api.PickEven, "back": api.PickBack, "every": api.PickEvery}
	kind, isPrefix := prefixes[s.now()]
	switch {
	case s.word("group"):
		return group(s.number()), true
	case s.word("preset"):
		return preset(s.number()), true
	case !isPrefix && !s.word("("):
		return s.units(), true
	}
	s.frames = append(s.frames, frame{prefix: api.Pick{Kind: kind}})
	if isPrefix {
		s.at++
	}
	if kind == api.PickEvery && !s.isFull() {
		s.top().prefix.From = s.number()
		s.wrong = s.wrong || !s.word("from")
		s.top().prefix.To = s.number()
	}
	return api.Pick{}, false
}

// end closes, behind a part, the prefixes ahead of it, and brackets as long as they come.
func (s *scan) end(p api.Pick) {
	for {
		for s.top().prefix.Kind != 0 {
			q := s.top().prefix
			q.Args = []api.Pick{p}
			p = q
			s.frames = s.frames[:len(s.frames)-1]
		}
		s.top().add(p)
		if len(s.frames) == 1 || !s.word(")") {
			return
		}
		p = *s.top().read
		s.frames = s.frames[:len(s.frames)-1]
	}
}

func (s *scan) isFull() bool { return len(s.frames) > 101 }

func readText(text string) (api.Pick, int, api.Fault) {
	if len(text) > 4000 {
		return api.Pick{}, 0, api.ErrLarge
	}
	places := regexp.MustCompile(`[a-z]+|[0-9]+|[^ ]`).FindAllStringIndex(text, -1)
	s := &scan{text: text, places: append(places, []int{len(text), len(text)}), frames: []frame{{}}}
	for {
		p, whole := s.begin()
		switch {
		case s.isFull():
			return api.Pick{}, 0, api.ErrLarge
		case s.wrong:
			return api.Pick{}, s.places[s.at][0], api.ErrSyntax
		case !whole:
			continue
		}
		s.end(p)
		switch {
		case s.word("+"):
			s.top().sign = api.PickJoin
		case s.word("-"):
			s.top().sign = api.PickLess
		case len(s.frames) == 1 && s.now() == "":
			if fault := pickFault(*s.top().read); fault != api.OK {
				return api.Pick{}, 0, fault
			}
			return *s.top().read, 0, api.OK
		default:
			return api.Pick{}, s.places[s.at][0], api.ErrSyntax
		}
	}
}

// each calls do for all parts of a selection.
func each(p api.Pick, do func(part api.Pick)) {
	do(p)
	for _, arg := range p.Args {
		each(arg, do)
	}
}

// uses says which groups use which ones, directly or by others.
func uses(l []api.Group) map[[2]int]bool {
	u := map[[2]int]bool{}
	for _, g := range l {
		each(g.Pick, func(part api.Pick) {
			if part.Kind == api.PickGroup {
				u[[2]int{g.Number, part.From}] = true
			}
		})
	}
	for _, by := range l {
		for _, a := range l {
			for _, b := range l {
				if u[[2]int{a.Number, by.Number}] && u[[2]int{by.Number, b.Number}] {
					u[[2]int{a.Number, b.Number}] = true
				}
			}
		}
	}
	return u
}

func groupsFault(l []api.Group) api.Fault {
	if len(l) > 200 {
		return api.ErrLarge
	}
	there := map[int]bool{}
	for i, g := range l {
		if g.Number < 1 || g.Number > 999 {
			return api.ErrRange
		}
		if i > 0 && g.Number <= l[i-1].Number {
			return api.ErrOrder
		}
		if fault := pickFault(g.Pick); fault != api.OK {
			return fault
		}
		there[g.Number] = true
	}
	u := uses(l)
	for pair := range u {
		if !there[pair[1]] {
			return api.ErrNone
		}
	}
	for _, g := range l {
		if u[[2]int{g.Number, g.Number}] {
			return api.ErrLoop
		}
	}
	return api.OK
}

func keysOf(r api.Rig) []api.Key {
	keys, _ := fixture.Keys(r)
	return keys
}

var titleForm = regexp.MustCompile(`^([!-~]([ -~]{0,58}[!-~])?)?$`)

func presetsFault(r api.Rig, l []api.Preset) api.Fault {
	if fault := fixture.CheckRig(r); fault != api.OK {
		return fault
	}
	if len(l) > 200 {
		return api.ErrLarge
	}
	keys := keysOf(r)
	for i, p := range l {
		switch {
		case p.Number < 1 || p.Number > 999:
			return api.ErrRange
		case i > 0 && p.Number <= l[i-1].Number:
			return api.ErrOrder
		case !titleForm.MatchString(p.Title):
			return api.ErrForm
		case len(p.Settings) > 2000:
			return api.ErrLarge
		}
		for j, s := range p.Settings {
			switch {
			case !slices.Contains(keys, s.Key):
				return api.ErrNone
			case s.Level < 0 || s.Level > 65535:
				return api.ErrRange
			case j > 0 && !isAhead(p.Settings[j-1].Key, s.Key):
				return api.ErrOrder
			}
		}
	}
	return api.OK
}

func isAhead(a, b api.Key) bool {
	return a.Unit < b.Unit || a.Unit == b.Unit && a.Param < b.Param
}

// unitsOf returns the units of a selection, and whether all that it names is there.
func unitsOf(r api.Rig, groups []api.Group, presets []api.Preset, p api.Pick) ([]int, bool) {
	all := true
	var args [][]int
	for _, arg := range p.Args {
		l, ok := unitsOf(r, groups, presets, arg)
		args = append(args, l)
		all = all && ok
	}
	var l []int
	switch p.Kind {
	case api.PickUnits:
		l = stretchOf(r, p.From, p.To)
	case api.PickGroup:
		i := slices.IndexFunc(groups, func(g api.Group) bool { return g.Number == p.From })
		if i < 0 {
			return nil, false
		}
		l, all = unitsOf(r, groups, presets, groups[i].Pick)
	case api.PickPreset:
		i := slices.IndexFunc(presets, func(q api.Preset) bool { return q.Number == p.From })
		if i < 0 {
			return nil, false
		}
		for _, s := range presets[i].Settings {
			l = append(l, s.Key.Unit)
		}
	case api.PickJoin:
		l = slices.Concat(args...)
	case api.PickBack:
		for _, n := range args[0] {
			l = append([]int{n}, l...)
		}
	default:
		l = choice(p, args)
	}
	var once []int
	for _, n := range l {
		if !slices.Contains(once, n) {
			once = append(once, n)
		}
	}
	return once, all
}

// stretchOf are the units of a rig from a number to another one.
func stretchOf(r api.Rig, from, to int) []int {
	step := 1
	if to < from {
		step = -1
	}
	var l []int
	for n := from; n != to+step; n += step {
		if slices.ContainsFunc(r.Units, func(u api.Unit) bool { return u.Number == n }) {
			l = append(l, n)
		}
	}
	return l
}

// choice are the units of the first one of args that a selection has, in their order.
func choice(p api.Pick, args [][]int) []int {
	var l []int
	for i, n := range args[0] {
		number, has := i+1, false
		switch p.Kind {
		case api.PickLess:
			has = !slices.Contains(args[1], n)
		case api.PickOdd:
			has = number%2 == 1
		case api.PickEven:
			has = number%2 == 0
		case api.PickEvery:
			has = number >= p.To && (number-p.To)%p.From == 0
		}
		if has {
			l = append(l, n)
		}
	}
	return l
}

func up(a, b int) int {
	n := a / b
	if n*b < a {
		n++
	}
	return n
}

// fanned are the levels of n units.
func fanned(f api.Fan, n int) []int {
	m := up(n, f.Block)
	s := up(m, f.Wings)
	var l []int
	for i := range n {
		j := i / f.Block
		w, place := j/s, j%s
		if w%2 == 1 {
			place = s - 1 - place
		}
		l = append(l, corner(f.Corners, place, s))
	}
	return l
}

// corner is the level number i of n along corners.
func corner(l []int, i, n int) int {
	if n == 1 {
		return l[0]
	}
	x := big.NewRat(int64(i*(len(l)-1)), int64(n-1))
	k := int(new(big.Int).Div(x.Num(), x.Denom()).Int64())
	if x.IsInt() {
		return l[k]
	}
	x.Sub(x, big.NewRat(int64(k), 1))
	x.Mul(x, big.NewRat(int64(l[k+1]-l[k]), 1))
	x.Add(x, big.NewRat(int64(l[k]), 1))
	x.Add(x, big.NewRat(1, 2))
	return int(new(big.Int).Div(x.Num(), x.Denom()).Int64())
}

// bySorting are settings by their keys, of several for one key the last one.
func bySorting(l []api.Setting) []api.Setting {
	l = slices.Clone(l)
	slices.SortStableFunc(l, func(a, b api.Setting) int {
		switch {
		case isAhead(a.Key, b.Key):
			return -1
		case isAhead(b.Key, a.Key):
			return 1
		}
		return 0
	})
	var last []api.Setting
	for i, s := range l {
		if i == len(l)-1 || l[i+1].Key != s.Key {
			last = append(last, s)
		}
	}
	return last
}

// recorded are presets with one that is recorded, without an error.
func recorded(presets []api.Preset, number int, title string, l []api.Setting, merge bool) []api.Preset {
	var out []api.Preset
	done := false
	for _, p := range presets {
		if !done && p.Number >= number {
			q := api.Preset{Number: number, Title: title, Settings: bySorting(l)}
			if p.Number == number && merge {
				q.Settings = bySorting(append(slices.Clone(p.Settings), l...))
				if title == "" {
					q.Title = p.Title
				}
			}
			out = append(out, q)
			done = true
		}
		if p.Number != number {
			out = append(out, p)
		}
	}
	if !done {
		out = append(out, api.Preset{Number: number, Title: title, Settings: bySorting(l)})
	}
	return out
}
