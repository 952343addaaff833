package decimal_test

import (
	"testing"

	"cyclorama/decimal"
)

func TestNumber(t *testing.T) {
	for text, want := range map[string]int{"0": 0, "7": 7, "10": 10, "65535": 65535, "999999999": 999999999} {
		if n, ok := decimal.Number(text); n != want || !ok {
			t.Errorf("Number(%q): got %d %v", text, n, ok)
		}
	}
	for _, text := range []string{"", "00", "07", "-1", "+1", " 1", "1 ", "1.5", "a", "1a", "1000000000", "٣"} {
		if n, ok := decimal.Number(text); n != 0 || ok {
			t.Errorf("Number(%q): got %d %v, want none", text, n, ok)
		}
	}
}

func TestParts(t *testing.T) {
	for text, want := range map[string]int{"0": 0, "1": 1000, "1.5": 1500, "0.25": 250, "12.005": 12005, "59.999": 59999} {
		if n, ok := decimal.ReadParts(text, 3); n != want || !ok {
			t.Errorf("ReadParts(%q): got %d %v, want %d", text, n, ok, want)
		}
		if got := decimal.ShowParts(want, 3); got != text {
			t.Errorf("ShowParts(%d): got %q, want %q", want, got, text)
		}
	}
	for _, text := range []string{"", ".", ".5", "1.", "1.50", "1.0", "1.0005", "01.5", "1.5.5", "1.a", "1,5", "-1.5", "1. 5"} {
		if n, ok := decimal.ReadParts(text, 3); n != 0 || ok {
			t.Errorf("ReadParts(%q): got %d %v, want none", text, n, ok)
		}
	}
	if n, ok := decimal.ReadParts("1.255", 2); n != 0 || ok {
		t.Errorf("ReadParts with a digit too many: got %d %v", n, ok)
	}
}
