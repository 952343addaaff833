package level_test

import (
	"fmt"
	"strings"
	"testing"

	"cyclorama/api"
	"cyclorama/level"
)

func TestShow(t *testing.T) {
	percents := map[int]string{}
	for p := 1; p < 100; p++ {
		percents[rounded(rat(p*api.Full, 100))] = fmt.Sprint(p, "%")
	}
	for n := 0; n <= api.Full; n++ {
		want := fmt.Sprint("#", n)
		if p, ok := percents[n]; ok {
			want = p
		}
		switch n {
		case 0:
			want = "out"
		case api.Full:
			want = "full"
		}
		text, x := level.Show(n)
		if text != want || x != api.OK {
			t.Fatalf("Show(%d): got %q %d, want %q", n, text, x, want)
		}
		if back, x := level.Read(text); back != n || x != api.OK {
			t.Fatalf("Read(%q): got %d %d, want %d", text, back, x, n)
		}
	}
	same(t, "Show", results(level.Show(32768)), results("50%", api.OK))
	same(t, "Show", results(level.Show(655)), results("1%", api.OK))
	same(t, "Show", results(level.Show(64880)), results("99%", api.OK))
	for _, n := range []int{-1, api.Full + 1, extremes[0], extremes[len(extremes)-1]} {
		same(t, fmt.Sprint("Show ", n), results(level.Show(n)), results("", api.ErrRange))
	}
}

func TestReadPercentages(t *testing.T) {
	for h := 0; h <= 10000; h++ {
		text := fmt.Sprint(h / 100)
		if h%100 != 0 {
			text += "." + strings.TrimRight(fmt.Sprintf("%02d", h%100), "0")
		}
		n, x := level.Read(text + "%")
		if want := rounded(rat(h*api.Full, 10000)); n != want || x != api.OK {
			t.Fatalf("Read(%s%%): got %d %d, want %d", text, n, x, want)
		}
	}
}

func TestRead(t *testing.T) {
	for text, want := range map[string]int{
		"out": 0, "0%": 0, "#0": 0, "full": api.Full, "100%": api.Full, "#65535": api.Full,
		"7%": 4587, "12.5%": 8192, "0.25%": 164, "33.33%": 21843, "0.01%": 7, "99.99%": 65528, "#10": 10,
	} {
		same(t, "Read "+text, results(level.Read(text)), results(want, api.OK))
	}
	for _, text := range []string{
		"", " ", "Out", "OUT", "out ", " out", "Full", "fullout", "%", "#", "50", "50 %", " 50%", "50% ", "50%%",
		"00%", "07%", "00.5%", ".5%", "5.%", "5.0%", "12.50%", "0.00%", "1.234%", "0.001%", "1.5.5%", "1,5%",
		"100.01%", "100.5%", "101%", "999999999%", "1000000000%", "-1%", "-0%", "+1%", "1e1%", "0x1%",
		"#00", "#01", "#65536", "#-1", "#-0", "#+1", "# 1", "#1 ", "#1%", "##1", "#1.5", "#999999999", "#18446744073709551616",
		"50%\n", "#1\n", "out\x00", "٣%",
	} {
		same(t, fmt.Sprintf("Read %q", text), results(level.Read(text)), results(0, api.ErrSyntax))
	}
}

// timeText is the text of L2, made in another way than by the package.
func timeText(time int) string {
	text := fmt.Sprintf("%d.%03d", time/1000, time%1000)
	if time >= 60000 {
		text = fmt.Sprintf("%d:%02d.%03d", time/60000, time/1000%60, time%1000)
	}
	return strings.TrimSuffix(strings.TrimRight(text, "0"), ".")
}

func TestTimes(t *testing.T) {
	check := func(time int) {
		t.Helper()
		text, x := level.ShowTime(time)
		if want := timeText(time); text != want || x != api.OK {
			t.Fatalf("ShowTime(%d): got %q %d, want %q", time, text, x, want)
		}
		if back, x := level.ReadTime(text); back != time || x != api.OK {
			t.Fatalf("ReadTime(%q): got %d %d, want %d", text, back, x, time)
		}
	}
	for time := 0; time <= 130000; time++ {
		check(time)
	}
	for time := 0; time <= api.MaxTime; time += 997 {
		check(time)
	}
	for text, want := range map[string]int{
		"0": 0, "1.5": 1500, "0.001": 1, "10": 10000, "59.999": 59999, "1:00": 60000, "1:00.001": 60001, "2:05": 125000,
		"9:59.99": 599990, "12:00.5": 720500, "100:10": 6010000, "599:59.999": 35999999, "600:00": api.MaxTime,
	} {
		same(t, "ReadTime "+text, results(level.ReadTime(text)), results(want, api.OK))
		same(t, "ShowTime "+text, results(level.ShowTime(want)), results(text, api.OK))
	}
}

func TestTimeErrors(t *testing.T) {
	for _, n := range []int{-1, api.MaxTime + 1, extremes[0], extremes[len(extremes)-1]} {
		same(t, fmt.Sprint("ShowTime ", n), results(level.ShowTime(n)), results("", api.ErrRange))
	}
	for _, text := range []string{"600:00.001", "600:01", "601:00", "9999:59.999", "1000:00"} {
		same(t, "ReadTime "+text, results(level.ReadTime(text)), results(0, api.ErrRange))
	}
	for _, text := range []string{
		"", " ", ".", ":", "60", "60.5", "61", "100", "999999999", "1000000000", "00", "01", "01.5", ".5", "1.", "1.0", "1.50", "1.500", "1.0001",
		"0.0", "-1", "-0", "+1", " 1", "1 ", "1s", "1,5", "1.5.5", "0:30", "0:00", "00:30", "01:30", ":30", "1:", "1:5", "1:5.5", "1:005", "1:010", "1:10.10", "1:100",
		"1:60", "1:60.5", "1:99", "1:05.", "1:05.0", "1:05.50", "1:05.0001", "1:.5", "1:0.5", "1:-5", "1:+5", "1: 5", "1:5 ", "1 :05", "-1:05",
		"1.5:05", "1:05:05", "10000:00", "10000:60", "99999:00", "1:05\n", "a:05", "1:a5", "1:0a", "600:00.0010", "601:60",
	} {
		same(t, fmt.Sprintf("ReadTime %q", text), results(level.ReadTime(text)), results(0, api.ErrSyntax))
	}
}
