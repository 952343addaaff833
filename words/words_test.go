package words_test

import (
	"fmt"
	"slices"
	"strings"
	"testing"

	"cyclorama/api"
	"cyclorama/words"
)

func TestPlain(t *testing.T) {
	for b := range 256 {
		text := string([]byte{byte(b)})
		letter := b >= 'a' && b <= 'z'
		plain := letter || b >= '0' && b <= '9' || b == '-'
		for _, full := range []string{text, "a" + text, "a" + text + "a"} {
			if words.IsPlain(full) != plain {
				t.Errorf("IsPlain(%q): got %v", full, !plain)
			}
		}
		if words.IsName(text) != letter {
			t.Errorf("IsName(%q): got %v", text, !letter)
		}
		if words.IsName("a"+text) != plain {
			t.Errorf("IsName(%q): got %v", "a"+text, !plain)
		}
	}
	for _, text := range []string{"", "é", "aé", "a b", "A1", "a\n"} {
		if words.IsPlain(text) || words.IsName(text) {
			t.Errorf("%q: it is plain, or a name", text)
		}
	}
	if long := strings.Repeat("-", 1000); !words.IsPlain(long) {
		t.Error("a long row is not plain")
	}
}

func TestNameLength(t *testing.T) {
	for n := range 2 * api.MaxName {
		if want := n >= 1 && n <= api.MaxName; words.IsName(strings.Repeat("a", n)) != want {
			t.Errorf("IsName of %d bytes: got %v", n, !want)
		}
	}
}

func TestReadLines(t *testing.T) {
	for _, c := range []struct {
		text  string
		lines []string
		wrong int
	}{
		{"", nil, 0},
		{"\n", []string{""}, 0},
		{"a", nil, 1},
		{"a\n", []string{"a"}, 0},
		{"a\nb", []string{"a"}, 2},
		{"a\n\n b \n", []string{"a", "", " b "}, 0},
		{"a\nno\nb\n", []string{"a"}, 2},
		{"a\nno", []string{"a"}, 2},
		{"no\na", nil, 1},
		{"a\r\nb\n", []string{"a\r", "b"}, 0},
	} {
		var lines []string
		wrong := words.ReadLines(c.text, func(line string) bool {
			if line == "no" {
				return false
			}
			lines = append(lines, line)
			return true
		})
		if wrong != c.wrong || !slices.Equal(lines, c.lines) {
			t.Errorf("ReadLines(%q): got %q %d, want %q %d", c.text, lines, wrong, c.lines, c.wrong)
		}
	}
}

func readOut(word string) (int, api.Fault) {
	if word == "out" {
		return 7, api.OK
	}
	return 0, api.ErrSyntax
}

// TestLine reads lines `at NUMBER PLAIN [snap] OUT WORD`.
func TestLine(t *testing.T) {
	for line, want := range map[string]string{
		"at 12 x-1 snap out any": "12 x-1 true 7 any true",
		"at 0 9 out any":         "0 9 false 7 any true",
		"at 12 x out ":           "12 x false 7  true",
		"at 12 x snap snap any":  "12 x true 0  false",
		"at 12 x out any more":   "12 x false 7 any false",
		"at 12 x out":            "12 x false 7  false",
		"at 12 x snap":           "12 x true 0  false",
		"at 12 x":                "12 x false 0  false",
		"at 12 X out any":        "12 X false 0  false",
		"at 12  out any":         "12  false 0  false",
		"at 012 x out any":       "0  false 0  false",
		"at  12 x out any":       "0  false 0  false",
		"to 12 x out any":        "0  false 0  false",
		" at 12 x out any":       "0  false 0  false",
		"":                       "0  false 0  false",
	} {
		l := words.Split(line)
		l.Fixed("at")
		got := fmt.Sprint(l.Number(), " ", l.Plain(), " ", l.Option("snap"), " ", words.Take(l, readOut), " ", l.Next(), " ", l.Ended())
		if got != want {
			t.Errorf("%q: got %s, want %s", line, got, want)
		}
	}
}

func TestMust(t *testing.T) {
	for _, ok := range []bool{true, false} {
		l := words.Split("a")
		l.Next()
		l.Must(ok)
		l.Must(true)
		if l.Ended() != ok {
			t.Errorf("Must(%v), then Ended: got %v", ok, !ok)
		}
	}
	l := words.Split("snap")
	l.Must(false)
	if l.Option("snap") {
		t.Error("Option reads on behind what is wrong")
	}
}
