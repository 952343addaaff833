package colour_test

import (
	"fmt"
	"math"
	"regexp"
	"sort"
	"strconv"
	"strings"
	"testing"

	"cyclorama/api"
	"cyclorama/colour"
)

func gel(number int, name string, c api.Colour) api.Gel {
	return api.Gel{Number: number, Name: name, Colour: c}
}

var longName = "a" + strings.Repeat(" ~", 29) + "z"

// book returns a book of n gels, the colours of which come from few levels, so that many are equally near to one.
func (c chance) book(n int) []api.Gel {
	var l []api.Gel
	number := 0
	for range n {
		number += 1 + c.IntN(9999/n)
		few := rgb(257*c.IntN(3), c.IntN(3), 65535-c.IntN(2))
		l = append(l, gel(number, "Gel "+strconv.Itoa(c.IntN(100)), few))
	}
	return l
}

// fullBook has as many gels as there can be, with the longest lines.
func fullBook() []api.Gel {
	var l []api.Gel
	for i := range api.MaxGels {
		l = append(l, gel(api.MaxGel-api.MaxGels+1+i, longName, rgb(1, i, 65535)))
	}
	return l
}

func books() [][]api.Gel {
	random := newChance(7)
	l := [][]api.Gel{
		nil, {}, {gel(1, "a", rgb(0, 0, 0))}, {gel(9999, "~", rgb(65535, 65535, 65535))}, fullBook(),
		{gel(4, "Red", rgb(65535, 0, 0)), gel(9, "Deep green", rgb(0, 65535, 0))},
		{gel(1, "#ff0000 b", rgb(1, 2, 3)), gel(2, "2  3", rgb(1, 2, 3)), gel(3, longName, rgb(257, 2*257, 3*257))},
	}
	for n := 1; n <= 40; n++ {
		l = append(l, random.book(n))
	}
	return append(l, random.book(api.MaxGels))
}

type badBook struct {
	name string
	l    []api.Gel
	want api.Fault
}

func badBooks() []badBook {
	right := gel(5, "Right", rgb(1, 2, 3))
	wrong := gel(0, "", rgb(-1, 0, 0))
	many := make([]api.Gel, api.MaxGels+1)
	tooMany := append(fullBook(), gel(1, "One", rgb(0, 0, 0)))
	l := []badBook{
		{"too many, and all wrong", many, api.ErrLarge},
		{"one too many", tooMany, api.ErrLarge},
		{"the number first", []api.Gel{wrong}, api.ErrRange},
		{"the number ahead of the order", []api.Gel{right, wrong}, api.ErrRange},
		{"the number 10000", []api.Gel{gel(10000, "a", rgb(0, 0, 0))}, api.ErrRange},
		{"the number -1", []api.Gel{gel(-1, "a", rgb(0, 0, 0))}, api.ErrRange},
		{"a number twice", []api.Gel{right, gel(5, "", rgb(-1, 0, 0))}, api.ErrOrder},
		{"a lower number", []api.Gel{right, gel(4, "", rgb(-1, 0, 0))}, api.ErrOrder},
		{"a lower number than the one ahead", []api.Gel{gel(3, "a", rgb(0, 0, 0)), gel(8, "a", rgb(0, 0, 0)), gel(5, "a", rgb(0, 0, 0))}, api.ErrOrder},
		{"each gel for itself: a colour", []api.Gel{gel(5, "a", rgb(0, 0, -1)), wrong}, api.ErrRange},
		{"each gel for itself: a name", []api.Gel{gel(5, "", rgb(0, 0, 0)), wrong}, api.ErrForm},
		{"each gel for itself: the order", []api.Gel{right, right, wrong}, api.ErrOrder},
	}
	for _, name := range []string{"", " ", " a", "a ", longName + "a", strings.Repeat("a", 61), "a\nb", "\n", "a\tb", "a\x1fb", "a\x7f", "\x80", "é"} {
		l = append(l, badBook{fmt.Sprintf("the name %q", name), []api.Gel{right, gel(6, name, rgb(-1, 0, 0))}, api.ErrForm})
	}
	for _, c := range badColours() {
		l = append(l, badBook{fmt.Sprint("the colour ", c), []api.Gel{gel(4, "a", rgb(0, 0, 0)), gel(5, "Wrong", c), gel(5, "", c)}, api.ErrRange})
	}
	return l
}

func TestCheckBook(t *testing.T) {
	for _, l := range books() {
		same(t, fmt.Sprint("CheckBook ", l), colour.CheckBook(l), api.OK)
	}
	for _, b := range badBooks() {
		same(t, "CheckBook: "+b.name, colour.CheckBook(b.l), b.want)
	}
}

func TestBooksComeFirst(t *testing.T) {
	for _, b := range badBooks() {
		same(t, "BookText: "+b.name, results(colour.BookText(b.l)), results("", b.want))
		same(t, "Nearest: "+b.name, results(colour.Nearest(b.l, rgb(-1, 0, 0), -1)), results([]api.Gel{}, b.want))
		same(t, "Nearest: "+b.name, results(colour.Nearest(b.l, rgb(0, 0, 0), 1)), results([]api.Gel{}, b.want))
	}
}

// bookText is the text of C5, made in another way than by the package.
func bookText(l []api.Gel) string {
	var text strings.Builder
	for _, g := range l {
		of := longText(g.Colour)
		if short, ok := shortText(g.Colour); ok {
			of = short
		}
		fmt.Fprintf(&text, "%d %s %s\n", g.Number, of, g.Name)
	}
	return text.String()
}

func TestBookTexts(t *testing.T) {
	for _, l := range books() {
		text, fault := colour.BookText(l)
		same(t, "BookText", results(text, fault), results(bookText(l), api.OK))
		same(t, "ReadBook", results(colour.ReadBook(text)), results(l, 0, api.OK))
	}
	if n := len(bookText(fullBook())); n != 80*api.MaxGels {
		t.Errorf("the longest book has %d bytes", n)
	}
}

var gelPattern = regexp.MustCompile(`(?s)^(0|[1-9][0-9]{0,8}) #([0-9a-fA-F]{6}|[0-9a-fA-F]{12}) (.+)$`)

// bookOf is ReadBook of C5, made in another way than by the package. The text must not be too large.
func bookOf(text string) ([]api.Gel, int, api.Fault) {
	var l []api.Gel
	for i, line := range strings.SplitAfter(text, "\n") {
		if line == "" {
			continue
		}
		m := gelPattern.FindStringSubmatch(strings.TrimSuffix(line, "\n"))
		if m == nil || !strings.HasSuffix(line, "\n") {
			return nil, i + 1, api.ErrSyntax
		}
		number, _ := strconv.Atoi(m[1])
		c, _ := colour.Read("#" + m[2])
		l = append(l, gel(number, m[3], c))
	}
	if fault := colour.CheckBook(l); fault != api.OK {
		return nil, 0, fault
	}
	return l, 0, api.OK
}

// TestSpoiltBookTexts reads texts of books in which bytes were changed, put in or left out at random.
func TestSpoiltBookTexts(t *testing.T) {
	random := newChance(8)
	bytes := []string{"", " ", "\n", "#", "0", "1", "f", "F", "g", "~", "\x00", "\x80", "-"}
	seen := map[api.Fault]int{}
	for range 30000 {
		text := bookText(random.book(1 + random.IntN(3)))
		for range 1 + random.IntN(2) {
			at := random.IntN(len(text))
			text = text[:at] + bytes[random.IntN(len(bytes))] + text[at+random.IntN(2):]
		}
		l, wrong, fault := bookOf(text)
		seen[fault]++
		same(t, fmt.Sprintf("ReadBook %q", text), results(colour.ReadBook(text)), results(l, wrong, fault))
	}
	for _, fault := range []api.Fault{api.OK, api.ErrSyntax, api.ErrForm, api.ErrRange, api.ErrOrder} {
		if seen[fault] < 10 {
			t.Errorf("only %d texts with the fault %d", seen[fault], fault)
		}
	}
}

func TestReadBook(t *testing.T) {
	same(t, "ReadBook of nothing", results(colour.ReadBook("")), results([]api.Gel{}, 0, api.OK))
	want := []api.Gel{gel(4, "Red", rgb(65535, 0, 0)), gel(10, "A  b #c", rgb(0xabab, 0xcdcd, 0xefef))}
	same(t, "ReadBook", results(colour.ReadBook("4 #FFFF00000000 Red\n10 #AbCdEf A  b #c\n")), results(want, 0, api.OK))
	const right = "4 #ff0000 Red\n"
	for _, line := range []string{
		" ", "\n", "5\n", "5 \n", "5 #ff0000\n", "5 #ff0000 \n", "5  #ff0000 a\n", " 5 #ff0000 a\n", "05 #ff0000 a\n", "00 #ff0000 a\n", "+5 #ff0000 a\n", "-5 #ff0000 a\n",
		"1000000000 #ff0000 a\n", "5 ff0000 a\n", "5 #ff000 a\n", "5 #ff00000 a\n", "5 #gf0000 a\n", "5 # a\n", "#ff0000 5 a\n", "5.0 #ff0000 a\n", "5\t#ff0000 a\n", "5 #ff0000\ta\n",
		"5 #ff0000 a", "5 #ff0000 a\r", "x\n",
	} {
		none := []api.Gel{}
		same(t, fmt.Sprintf("ReadBook %q", line), results(colour.ReadBook(line)), results(none, 1, api.ErrSyntax))
		same(t, fmt.Sprintf("ReadBook %q", line), results(colour.ReadBook(right+line)), results(none, 2, api.ErrSyntax))
		if strings.HasSuffix(line, "\n") {
			// What is wrong with the gels, and in later lines, is not looked at.
			same(t, fmt.Sprintf("ReadBook %q", line), results(colour.ReadBook(right+right+line+"y\n")), results(none, 3, api.ErrSyntax))
		}
	}
}

func TestReadBookFaults(t *testing.T) {
	const right = "4 #ff0000 Red\n"
	for text, want := range map[string]api.Fault{
		"0 #ff0000 a\n": api.ErrRange, "10000 #ff0000 a\n": api.ErrRange, "999999999 #ff0000 a\n": api.ErrRange,
		right + right: api.ErrOrder, right + "3 #ff0000 a\n": api.ErrOrder,
		"5 #ff0000  \n": api.ErrForm, "5 #ff0000  a\n": api.ErrForm, "5 #ff0000 a \n": api.ErrForm, "5 #ff0000 a\r\n": api.ErrForm, "5 #ff0000 \xff\n": api.ErrForm,
		"5 #ff0000 " + longName + "!\n":                api.ErrForm,
		strings.Repeat("0 #ff0000 a\n", api.MaxGels+1): api.ErrLarge,
	} {
		same(t, fmt.Sprintf("ReadBook %q", text), results(colour.ReadBook(text)), results([]api.Gel{}, 0, want))
	}
	line := "5 #ff0000 "
	most := line + strings.Repeat("a", api.MaxBookText-len(line)-1)
	same(t, "ReadBook of the most bytes", results(colour.ReadBook(most+"\n")), results([]api.Gel{}, 0, api.ErrForm))
	same(t, "ReadBook of the most bytes", results(colour.ReadBook(most+"a")), results([]api.Gel{}, 1, api.ErrSyntax))
	same(t, "ReadBook of too many bytes", results(colour.ReadBook(most+"a\n")), results([]api.Gel{}, 0, api.ErrLarge))
	same(t, "ReadBook of too many bytes", results(colour.ReadBook("x\n"+most)), results([]api.Gel{}, 0, api.ErrLarge))
}

// nearest looks for the gels one after the other.
func nearest(l []api.Gel, c api.Colour, n int) []api.Gel {
	left := append([]api.Gel(nil), l...)
	sort.Slice(left, func(i, j int) bool {
		a, b := distance(left[i].Colour, c), distance(left[j].Colour, c)
		return a < b || a == b && left[i].Number < left[j].Number
	})
	return left[:min(n, len(left))]
}

func TestNearest(t *testing.T) {
	random := newChance(9)
	for _, l := range books() {
		c := random.colour()
		if random.IntN(2) == 0 && len(l) > 0 {
			c = l[random.IntN(len(l))].Colour
		}
		for _, n := range []int{0, 1, 2, len(l) / 2, max(len(l)-1, 0), len(l), min(len(l)+1, api.MaxGels), api.MaxGels} {
			same(t, fmt.Sprint("Nearest ", l, c, n), results(colour.Nearest(l, c, n)), results(nearest(l, c, n), api.OK))
		}
	}
	var alike []api.Gel
	for i := range api.MaxGels {
		alike = append(alike, gel(3*i+1, "Blue", rgb(0, 0, 9)))
	}
	same(t, "Nearest of gels with one colour", results(colour.Nearest(alike, rgb(5, 5, 5), api.MaxGels)), results(alike, api.OK))
	same(t, "Nearest of gels with one colour", results(colour.Nearest(alike, rgb(5, 5, 5), 7)), results(alike[:7], api.OK))
}

func TestNearestErrors(t *testing.T) {
	l := []api.Gel{gel(5, "Right", rgb(1, 2, 3))}
	for _, c := range badColours() {
		same(t, fmt.Sprint("Nearest ", c), results(colour.Nearest(l, c, 1)), results([]api.Gel{}, api.ErrRange))
		same(t, fmt.Sprint("Nearest ", c), results(colour.Nearest(nil, c, 0)), results([]api.Gel{}, api.ErrRange))
	}
	for _, n := range []int{math.MinInt, -1, api.MaxGels + 1, math.MaxInt} {
		same(t, fmt.Sprint("Nearest ", n), results(colour.Nearest(l, rgb(1, 2, 3), n)), results([]api.Gel{}, api.ErrRange))
		same(t, fmt.Sprint("Nearest ", n), results(colour.Nearest(nil, rgb(1, 2, 3), n)), results([]api.Gel{}, api.ErrRange))
	}
}
