package words_test

import (
	"fmt"
	"slices"
	"strings"
	"testing"

	"cyclorama/api"
	"cyclorama/words"
)

func TestPlain(t *testing.T) {
	for b := range 256 {
		text := string([]byte{byte(b)})
		letter := b >= 'a' && b <= 'z'
		plain := letter || b >= '0' && b <= '9' || b == '-'
		for _, full := range []string{text, "a" + text, "a" + text + "a"} {
			if words.IsPlain(full) != plain {
				t.Errorf("IsPlain(%q): got %v", full, !plain)
			}
		}
		if words.IsName(text) != letter {
			t.Errorf("IsName(%q): got %v", text, !letter)
		}
		if words.IsName("a"+text) != plain {
			t.Errorf("IsName(%q): got %v", "a"+text, !plain)
		}
	}
	for _, text := range []string{"", "é", "aé", "a b", "A1", "a\n"} {
		if words.IsPlain(text) || words.IsName(text) {
			t.Errorf("%q: it is plain, or a name", text)
		}
	}
	if long := strings.Repeat("-", 1000); !words.IsPlain(long) {
		t.Error("a long row is not plain")
	}
}

func TestNameLength(t *testing.T) {
	for n := range 2 * api.MaxName {
		if want := n >= 1 && n <= api.MaxName; words.IsName(strings.Repeat("a", n)) != want {
			t.Errorf("IsName of %d bytes: got %v", n, !want)
		}
	}
}

func TestTitle(t *testing.T) {
	for b := range 256 {
		text := string([]byte{byte(b)})
		seen, blank := b >= 32 && b <= 126, b == 32
		for full, want := range map[string]bool{text: seen && !blank, text + "a": seen && !blank, "a" + text: seen && !blank, "a" + text + "a": seen} {
			if words.IsTitle(full) != want {
				t.Errorf("IsTitle(%q): got %v", full, !want)
			}
		}
	}
	for n := range 2 * api.MaxTitle {
		if want := n >= 1 && n <= api.MaxTitle; words.IsTitle(strings.Repeat("a", n)) != want {
			t.Errorf("IsTitle of %d bytes: got %v", n, !want)
		}
	}
}

func TestCutTitle(t *testing.T) {
	for line, want := range map[string][3]string{
		`a b`:            {`a b`, ``, "true"},
		``:               {``, ``, "true"},
		`a "b"`:          {`a`, `b`, "true"},
		`a "b" "c"`:      {`a`, `b" "c`, "true"},
		`a """`:          {`a`, `"`, "true"},
		`a " "`:          {`a`, ` `, "true"},
		"a \"\xff\x00\"": {`a`, "\xff\x00", "true"},
		` "b"`:           {``, `b`, "true"},
		`a  "b"`:         {`a `, `b`, "true"},
		`a"b"`:           {`a"b"`, ``, "true"},
		`a"b "c"`:        {`a"b`, `c`, "true"},
		`a ""`:           {`a`, ``, "false"},
		`a "`:            {`a`, ``, "false"},
		`a "b`:           {`a`, `b`, "false"},
		`a "b" `:         {`a`, `b" `, "false"},
		`a "b"c`:         {`a`, `b"c`, "false"},
	} {
		ahead, title, ok := words.CutTitle(line)
		if got := [3]string{ahead, title, fmt.Sprint(ok)}; got != want {
			t.Errorf("CutTitle(%q): got %q, want %q", line, got, want)
		}
	}
}

func TestInQuotes(t *testing.T) {
	for title, want := range map[string]string{"": "", "A": ` "A"`, `a "b" c`: ` "a "b" c"`, `"`: ` """`} {
		if got := words.InQuotes(title); got != want {
			t.Errorf("InQuotes(%q): got %q, want %q", title, got, want)
		}
		if ahead, read, ok := words.CutTitle("5" + want); ahead != "5" || read != title || !ok {
			t.Errorf("CutTitle(%q): got %q %q %v", "5"+want, ahead, read, ok)
		}
	}
}

func TestKeys(t *testing.T) {
	for text, want := range map[string]api.Key{
		"1.dim":         {Unit: 1, Param: "dim"},
		"9999.pan-2":    {Unit: 9999, Param: "pan-2"},
		"0.-":           {Unit: 0, Param: "-"},
		"999999999.007": {Unit: 999999999, Param: "007"},
	} {
		if got, fault := words.ReadKey(text); got != want || fault != api.OK {
			t.Errorf("ReadKey(%q): got %v %d", text, got, fault)
		}
		if got := words.KeyText(want); got != text {
			t.Errorf("KeyText(%v): got %q", want, got)
		}
	}
	for _, text := range []string{"", ".", "1", "1.", ".dim", "dim", "01.dim", "1..dim", "1.dim.", "1.Dim", "1.d m", " 1.dim", "1.dim ", "-1.dim", "1 .dim", "1000000000.dim", "x.dim", "1,dim"} {
		if got, fault := words.ReadKey(text); got != (api.Key{}) || fault != api.ErrSyntax {
			t.Errorf("ReadKey(%q): got %v %d", text, got, fault)
		}
	}
}

func TestLimited(t *testing.T) {
	for text, want := range map[string]api.Fault{"": api.OK, "abc": api.OK, "abcd": api.ErrLarge} {
		got, fault := words.Limited(text, 3)
		if fault != want || fault == api.OK && got != text || fault != api.OK && got != "" {
			t.Errorf("Limited(%q, 3): got %q %d", text, got, fault)
		}
	}
}

func TestReadLines(t *testing.T) {
	const most = 9
	for _, c := range []struct {
		text  string
		lines []string
		wrong int
	}{
		{"", nil, 0},
		{"\n", []string{""}, 0},
		{"a", nil, 1},
		{"a\n", []string{"a"}, 0},
		{"a\nb", []string{"a"}, 2},
		{"a\n\n b \n", []string{"a", "", " b "}, 0},
		{"a\nno\nb\n", []string{"a"}, 2},
		{"a\nno", []string{"a"}, 2},
		{"no\na", nil, 1},
		{"a\r\nb\n", []string{"a\r", "b"}, 0},
		{"12345678\n", []string{"12345678"}, 0},
	} {
		var lines []string
		wrong, fault := words.ReadLines(c.text, most, func(line string) bool {
			if line == "no" {
				return false
			}
			lines = append(lines, line)
			return true
		})
		want := api.OK
		if c.wrong > 0 {
			want = api.ErrSyntax
		}
		if wrong != c.wrong || fault != want || !slices.Equal(lines, c.lines) {
			t.Errorf("ReadLines(%q): got %q %d %d, want %q %d %d", c.text, lines, wrong, fault, c.lines, c.wrong, want)
		}
	}
	for _, text := range []string{"no\nand more", "aaaaaaaaa\n"} {
		wrong, fault := words.ReadLines(text, most, func(line string) bool {
			t.Errorf("ReadLines(%q): a line of what is too large is read", text)
			return true
		})
		if wrong != 0 || fault != api.ErrLarge {
			t.Errorf("ReadLines(%q): got %d %d", text, wrong, fault)
		}
	}
}

func readOut(word string) (int, api.Fault) {
	if word == "out" {
		return 7, api.OK
	}
	return 0, api.ErrSyntax
}

// TestLine reads lines `at NUMBER PLAIN [snap] OUT WORD`.
func TestLine(t *testing.T) {
	for line, want := range map[string]string{
		"at 12 x-1 snap out any": "12 x-1 true 7 any true",
		"at 0 9 out any":         "0 9 false 7 any true",
		"at 12 x out ":           "12 x false 7  true",
		"at 12 x snap snap any":  "12 x true 0  false",
		"at 12 x out any more":   "12 x false 7 any false",
		"at 12 x out":            "12 x false 7  false",
		"at 12 x snap":           "12 x true 0  false",
		"at 12 x":                "12 x false 0  false",
		"at 12 X out any":        "12 X false 0  false",
		"at 12  out any":         "12  false 0  false",
		"at 012 x out any":       "0  false 0  false",
		"at  12 x out any":       "0  false 0  false",
		"to 12 x out any":        "0  false 0  false",
		" at 12 x out any":       "0  false 0  false",
		"":                       "0  false 0  false",
	} {
		l := words.Split(line)
		l.Fixed("at")
		got := fmt.Sprint(l.Number(), " ", l.Plain(), " ", l.Option("snap"), " ", words.Take(l, readOut), " ", l.Next(), " ", l.Ended())
		if got != want {
			t.Errorf("%q: got %s, want %s", line, got, want)
		}
	}
}

// TestMore reads lines of numbers, as many as there are.
func TestMore(t *testing.T) {
	for line, want := range map[string]string{
		"5":         "[5] true",
		"5 6 7":     "[5 6 7] true",
		"5 x 7":     "[5 0] false",
		"5 6 ":      "[5 6 0] false",
		"":          "[0] false",
		"x":         "[0] false",
		"123 05 78": "[123 0] false",
	} {
		l := words.Split(line)
		var numbers []int
		for l.More() {
			numbers = append(numbers, l.Number())
		}
		if got := fmt.Sprint(numbers, " ", l.Ended()); got != want {
			t.Errorf("%q: got %s, want %s", line, got, want)
		}
	}
}

// TestRest reads lines of a number and the rest.
func TestRest(t *testing.T) {
	for line, want := range map[string]string{
		"5 a":      "5 a true",
		"5 a b  c": "5 a b  c true",
		"5  a ":    "5  a  true",
		"5  ":      "5   true",
		"5 ":       "5  false",
		"5":        "5  false",
		"x a b":    "0  false",
	} {
		l := words.Split(line)
		got := fmt.Sprint(l.Number(), " ", l.Rest(), " ", l.Ended())
		if got != want {
			t.Errorf("%q: got %s, want %s", line, got, want)
		}
		if more := l.Rest(); more != "" || l.Ended() {
			t.Errorf("%q: behind the rest there is %q", line, more)
		}
	}
}

func TestMust(t *testing.T) {
	for _, ok := range []bool{true, false} {
		l := words.Split("a")
		l.Next()
		l.Must(ok)
		l.Must(true)
		if l.Ended() != ok {
			t.Errorf("Must(%v), then Ended: got %v", ok, !ok)
		}
	}
	l := words.Split("snap")
	l.Must(false)
	if l.Option("snap") {
		t.Error("Option reads on behind what is wrong")
	}
}
