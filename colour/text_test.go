package colour_test

import (
	"fmt"
	"strings"
	"testing"

	"cyclorama/api"
	"cyclorama/colour"
)

func longText(c api.Colour) string {
	return fmt.Sprintf("#%04x%04x%04x", c.Red, c.Green, c.Blue)
}

// shortText returns the text of a colour whose components have two equal bytes each.
func shortText(c api.Colour) (string, bool) {
	text := "#"
	for _, n := range components(c) {
		if n>>8 != n&255 {
			return "", false
		}
		text += fmt.Sprintf("%02x", n>>8)
	}
	return text, true
}

func TestTexts(t *testing.T) {
	l := colours()
	for n := range api.Full + 1 {
		l = append(l, rgb(n, 0, 257), rgb(65535, n, 0), rgb(514, 65535, n))
	}
	shorts := 0
	for _, c := range l {
		want := longText(c)
		same(t, "Read", results(colour.Read(want)), results(c, api.OK))
		same(t, "Read", results(colour.Read(strings.ToUpper(want))), results(c, api.OK))
		if text, ok := shortText(c); ok {
			shorts++
			want = text
			same(t, "Read", results(colour.Read(want)), results(c, api.OK))
			same(t, "Read", results(colour.Read(strings.ToUpper(want))), results(c, api.OK))
		}
		same(t, fmt.Sprint("Show ", c), results(colour.Show(c)), results(want, api.OK))
	}
	if shorts < 3*256 {
		t.Errorf("only %d short texts", shorts)
	}
	for text, c := range map[string]api.Colour{
		"#000000": rgb(0, 0, 0), "#ffffff": rgb(65535, 65535, 65535), "#0a0000": rgb(2570, 0, 0), "#010203": rgb(257, 514, 771),
		"#000100000000": rgb(1, 0, 0), "#000000010000": rgb(0, 1, 0), "#000000000001": rgb(0, 0, 1), "#0101ffff0102": rgb(257, 65535, 258),
	} {
		same(t, "Show", results(colour.Show(c)), results(text, api.OK))
	}
	for text, c := range map[string]api.Colour{
		"#aBcDeF": rgb(0xabab, 0xcdcd, 0xefef), "#aBcDeF01fEDc": rgb(0xabcd, 0xef01, 0xfedc), "#000000000000": rgb(0, 0, 0), "#FFFFffff0101": rgb(65535, 65535, 257),
	} {
		same(t, "Read "+text, results(colour.Read(text)), results(c, api.OK))
	}
}

func TestReadErrors(t *testing.T) {
	for _, text := range []string{
		"", "#", " #ff0000", "#ff0000 ", "#ff0000\n", "ff0000", "ff00000", "0ff0000", "##ff0000", "##ff000", "#-f0000", "#+f0000", "#0xff00", "#f_0000", "#ff_0000",
		"#ff00ff00ff00 ", "ff00ff00ff00", "#ff00ff00ff0_", "#+f00ff00ff00", "#ffff 0000ffff", "red", "#٣٣٣", "#éééééé", "#ff0000#ff0000",
		strings.Repeat("#", 7), strings.Repeat("f", 13), "#" + strings.Repeat("f", 1000),
	} {
		same(t, "Read "+text, results(colour.Read(text)), results(api.Colour{}, api.ErrSyntax))
	}
	for n := range 40 {
		want := results(api.Colour{}, api.ErrSyntax)
		if n == 6 || n == 12 {
			want = results(rgb(0x1111, 0x1111, 0x1111), api.OK)
		}
		same(t, fmt.Sprint("Read of digits: ", n), results(colour.Read("#"+strings.Repeat("1", n))), want)
	}
	// Each byte at each place.
	for _, text := range []string{"#123456", "#123456789abc"} {
		for i := range len(text) {
			for b := range 256 {
				one := string([]byte{byte(b)})
				right := strings.Contains("0123456789abcdefABCDEF", one)
				if i == 0 {
					right = one == "#"
				}
				c, fault := colour.Read(text[:i] + one + text[i+1:])
				if right != (fault == api.OK) || !right && (fault != api.ErrSyntax || c != api.Colour{}) {
					t.Errorf("Read(%q): got %v %d", text[:i]+one+text[i+1:], c, fault)
				}
			}
		}
	}
}
