package pick_test

import (
	"fmt"
	"strings"
	"testing"

	"cyclorama/api"
	"cyclorama/pick"
)

// TestTexts has selections with the texts that Print writes.
func TestTexts(t *testing.T) {
	a, b, c, d := one(1), one(2), one(3), one(4)
	for text, p := range map[string]api.Pick{
		"5":                              one(5),
		"5 thru 9":                       units(5, 9),
		"9999 thru 1":                    units(9999, 1),
		"group 999":                      group(999),
		"preset 7":                       preset(7),
		"1 + 2":                          join(a, b),
		"1 + 2 + 3":                      join(a, b, c),
		"1 - 2":                          less(a, b),
		"odd 1":                          of(api.PickOdd, a),
		"even 1 thru 4":                  of(api.PickEven, units(1, 4)),
		"back group 1":                   of(api.PickBack, group(1)),
		"every 3 from 2 1 thru 9":        every(3, 2, units(1, 9)),
		"odd even back 1":                of(api.PickOdd, of(api.PickEven, of(api.PickBack, a))),
		"odd (1 + 2)":                    of(api.PickOdd, join(a, b)),
		"even (1 - 2)":                   of(api.PickEven, less(a, b)),
		"back (1 - 2)":                   of(api.PickBack, less(a, b)),
		"every 1 from 1 (1 + 2)":         every(1, 1, join(a, b)),
		"every 1 from 2 odd 1":           every(1, 2, of(api.PickOdd, a)),
		"odd 1 + 2":                      join(of(api.PickOdd, a), b),
		"1 + odd 2 + 3":                  join(a, of(api.PickOdd, b), c),
		"(1 + 2) + 3":                    join(join(a, b), c),
		"1 + (2 + 3)":                    join(a, join(b, c)),
		"1 - 2 + 3":                      join(less(a, b), c),
		"1 - 2 + 3 + 4":                  join(less(a, b), c, d),
		"1 + (2 - 3)":                    join(a, less(b, c)),
		"1 + 2 + (3 - 4)":                join(a, b, less(c, d)),
		"1 + 2 - 3":                      less(join(a, b), c),
		"1 - 2 - 3":                      less(less(a, b), c),
		"1 - (2 - 3)":                    less(a, less(b, c)),
		"1 - (2 + 3)":                    less(a, join(b, c)),
		"1 + 2 - 3 + 4":                  join(less(join(a, b), c), d),
		"1 + 2 - 3 + 4 + 5":              join(less(join(a, b), c), d, one(5)),
		"(1 + 2) + 3 - 4":                less(join(join(a, b), c), d),
		"odd (1 thru 6 - 3) + 2":         join(of(api.PickOdd, less(units(1, 6), c)), b),
		"back odd (preset 5 - group 6)":  of(api.PickBack, of(api.PickOdd, less(preset(5), group(6)))),
		"1 - odd (2 - (3 + (1 - 4)))":    less(a, of(api.PickOdd, less(b, join(c, less(a, d))))),
		"group 1 - preset 2 - 3 thru 10": less(less(group(1), preset(2)), units(3, 10)),
	} {
		same(t, "Print of "+text, results(pick.Print(p)), results(text, api.OK))
		same(t, "Parse of "+text, results(pick.Parse(text)), results(p, 0, api.OK))
	}
}

// TestFreedom has texts that Parse reads, though Print writes others.
func TestFreedom(t *testing.T) {
	for text, want := range map[string]string{
		"odd (1  thru 6 - 3) + 2":   "odd (1 thru 6 - 3) + 2",
		"  5  ":                     "5",
		"1+2-3":                     "1 + 2 - 3",
		"1-3":                       "1 - 3",
		"(5)":                       "5",
		"((5 thru 6))":              "5 thru 6",
		" ( ( 5 ) ) ":               "5",
		"odd(1)":                    "odd 1",
		"(odd (1))":                 "odd 1",
		"odd (odd 1)":               "odd odd 1",
		"(group 1)+(preset 2)":      "group 1 + preset 2",
		"every 2 from 3(1)":         "every 2 from 3 1",
		"every 2   from  3 (1 + 2)": "every 2 from 3 (1 + 2)",
		"(1 + 2)":                   "1 + 2",
		"(1 + 2) - 3":               "1 + 2 - 3",
		"(1 - 2) + 3":               "1 - 2 + 3",
		"(1 - 2) - 3":               "1 - 2 - 3",
		"(1 + 2) + 3":               "(1 + 2) + 3",
		"((1 + 2)) + 3":             "(1 + 2) + 3",
		"(1) + 2 + 3":               "1 + 2 + 3",
		"1 + (2) + 3":               "1 + 2 + 3",
		"(1 + 2) + (3 + 4) + 5":     "(1 + 2) + (3 + 4) + 5",
		"(1 + 2 - 3) + 4":           "1 + 2 - 3 + 4",
		"(1 + 2 - 3 + 4) + 5":       "(1 + 2 - 3 + 4) + 5",
		"1 - (2) - (3)":             "1 - 2 - 3",
		"back(back(1-2))":           "back back (1 - 2)",
	} {
		p := parsed(t, text)
		same(t, "Print of "+text, results(pick.Print(p)), results(want, api.OK))
	}
}

func TestPlaces(t *testing.T) {
	for text, place := range map[string]int{
		"":                         0,
		"  ":                       2,
		"1 + ":                     4,
		"1 +":                      3,
		"1 -  ":                    5,
		"+ 1":                      0,
		" - 1":                     1,
		"1 + + 2":                  4,
		"1 2":                      2,
		"1 group 2":                2,
		"1 odd 2":                  2,
		"1 thru":                   6,
		"1 thru ":                  7,
		"1 thru3":                  6,
		"1thru 3":                  1,
		"1 thru +":                 7,
		"1 thru thru":              7,
		"1 thru 2 thru 3":          9,
		"5 thru 5":                 7,
		"0 thru 0":                 7,
		"5 thru 5x":                7,
		"5 thru  05":               8,
		"thru 5":                   0,
		"from 5":                   0,
		"group":                    5,
		"group ":                   6,
		"group5":                   5,
		"group group":              6,
		"group (5)":                6,
		"group -5":                 6,
		"group 1 thru 2":           8,
		"groups 5":                 0,
		"Group 5":                  0,
		"gRoup 5":                  0,
		"preset":                   6,
		"preset9":                  6,
		"preset x":                 7,
		"preset 1 thru 2":          9,
		"odd":                      3,
		"odd ":                     4,
		"odd1":                     3,
		"odd + 1":                  4,
		"odd )":                    4,
		"oddodd 1":                 0,
		"even":                     4,
		"back - 1":                 5,
		"every":                    5,
		"every2 from 3 1":          5,
		"every x":                  6,
		"every 2":                  7,
		"every 2from 3 1":          7,
		"every 2 form 3 1":         8,
		"every 2 3":                8,
		"every 2 from":             12,
		"every 2 from3 1":          12,
		"every 2 from x 1":         13,
		"every 2 from 3":           14,
		"every 2 from 3x":          14,
		"every 2 from 3odd 1":      14,
		"every 2 from 3 + 1":       15,
		"(":                        1,
		"()":                       1,
		"(1":                       2,
		"(1 ":                      3,
		"(1 + )":                   5,
		"((1)":                     4,
		"1)":                       1,
		"(1))":                     3,
		"(1) 2":                    4,
		"(1)2":                     3,
		"(1)(2)":                   3,
		"1(2)":                     1,
		"[1]":                      0,
		"1,2":                      1,
		"1.5":                      1,
		"1\t+ 2":                   1,
		"1 + 2\n":                  5,
		"\n":                       0,
		"1 + \xc3\xa9":             4,
		"\x00":                     0,
		"1 + \xff":                 4,
		"01":                       0,
		"00":                       0,
		"1 + 007":                  4,
		"1 thru 010":               7,
		"group 01":                 6,
		"every 02 from 1 1":        6,
		"every 2 from 01 1":        13,
		"1234567890":               0,
		"1 + 1234567890":           4,
		"1 + 0000000001":           4,
		"12345678901234567890123":  0,
		"1 thru 99999999999999999": 7,
		"abc":                      0,
		"1abc":                     1,
		"abc1":                     0,
		"0 + x":                    4,
		"99999 9":                  6,
		"1--2":                     2,
		"1 thru-3":                 6,
	} {
		same(t, fmt.Sprintf("Parse(%q)", text), results(pick.Parse(text)), results(api.Pick{}, place, api.ErrSyntax))
	}
}

// TestReadAndWrong has texts that can be read, but not the selections.
func TestReadAndWrong(t *testing.T) {
	for text, want := range map[string]api.Fault{
		"0":                        api.ErrRange,
		"10000":                    api.ErrRange,
		"999999999":                api.ErrRange,
		"0 thru 5":                 api.ErrRange,
		"1 thru 10000":             api.ErrRange,
		"group 0":                  api.ErrRange,
		"group 1000":               api.ErrRange,
		"preset 0":                 api.ErrRange,
		"preset 1000":              api.ErrRange,
		"every 0 from 1 1":         api.ErrRange,
		"every 1 from 0 1":         api.ErrRange,
		"every 1 from 10000 1":     api.ErrRange,
		"1 + (2 - 0)":              api.ErrRange,
		strings.Repeat("odd ", 12): api.ErrSyntax,
	} {
		p, _, fault := pick.Parse(text)
		same(t, "Parse of "+text, results(p, fault), results(api.Pick{}, want))
	}
	odds := func(n int) string { return strings.Repeat("odd ", n) + "1" }
	same(t, "12 levels", results(pick.Parse(odds(11))), results(nest(11, one(1)), 0, api.OK))
	same(t, "13 levels", results(pick.Parse(odds(12))), results(api.Pick{}, 0, api.ErrLarge))
	ones := func(n int) string { return "1" + strings.Repeat(" + 1", n-1) }
	same(t, "200 parts", results(pick.Parse(ones(199)))[2], api.OK)
	same(t, "201 parts", results(pick.Parse(ones(200))), results(api.Pick{}, 0, api.ErrLarge))
	// Each - makes a further level.
	same(t, "12 levels of PickLess", results(pick.Parse("1" + strings.Repeat("-1", 11)))[2], api.OK)
	same(t, "13 levels of PickLess", results(pick.Parse("1"+strings.Repeat("-1", 12))), results(api.Pick{}, 0, api.ErrLarge))
	same(t, "2000 levels of PickLess", results(pick.Parse("1"+strings.Repeat("-1", 1999))), results(api.Pick{}, 0, api.ErrLarge))
}

// nest puts a number of PickOdd around a selection.
func nest(n int, p api.Pick) api.Pick {
	for range n {
		p = of(api.PickOdd, p)
	}
	return p
}

func TestLengths(t *testing.T) {
	long := "1" + strings.Repeat(" ", api.MaxPickText-1)
	same(t, "a text of all bytes that can be", results(pick.Parse(long)), results(one(1), 0, api.OK))
	same(t, "one byte more", results(pick.Parse(long+" ")), results(api.Pick{}, 0, api.ErrLarge))
	same(t, "a wrong text that is too long", results(pick.Parse(long+"?")), results(api.Pick{}, 0, api.ErrLarge))
	same(t, "a wrong text that is not", results(pick.Parse(long[1:]+"?")), results(api.Pick{}, api.MaxPickText-1, api.ErrSyntax))

	// A text with a number of bytes, of fewer parts than there can be: 17 Args of 224 bytes, one of 126 and those of its units, one of 4, and 18 signs.
	everys := func(n int, p api.Pick) api.Pick {
		for range n {
			p = every(9999, 9999, p)
		}
		return p
	}
	p := join()
	for range 17 {
		p.Args = append(p.Args, everys(10, units(1000, 2000)))
	}
	p.Args = append(p.Args, everys(6, units(1, 2)), one(1000))
	text, fault := pick.Print(p)
	same(t, "a text of all bytes that can be", results(len(text), fault), results(api.MaxPickText, api.OK))
	same(t, "Parse of it", results(pick.Parse(text)), results(p, 0, api.OK))
	p.Args[17] = everys(6, units(10, 2))
	same(t, "a text of one byte more", results(pick.Print(p)), results("", api.ErrLarge))
}

func TestPrintOfWrongOnes(t *testing.T) {
	for _, p := range []api.Pick{{}, group(0), of(api.PickOdd), deep(13), wide(201), units(1, 10000)} {
		same(t, fmt.Sprintf("Print(%+v)", p), results(pick.Print(p)), results("", pick.Check(p)))
	}
}

// TestNesting has brackets and prefixes within one another, up to the number that there can be, and beyond.
func TestNesting(t *testing.T) {
	brackets := func(n int) string { return strings.Repeat("(", n) }
	closed := func(n int) string { return brackets(n) + "1" + strings.Repeat(")", n) }
	large := results(api.Pick{}, 0, api.ErrLarge)
	same(t, "100 brackets", results(pick.Parse(closed(100))), results(one(1), 0, api.OK))
	same(t, "101 brackets", results(pick.Parse(closed(101))), large)
	same(t, "100 open ones", results(pick.Parse(brackets(100))), results(api.Pick{}, 100, api.ErrSyntax))
	same(t, "101 open ones", results(pick.Parse(brackets(101))), large)
	same(t, "101 open ones, and a wrong word", results(pick.Parse(brackets(101)+"?")), large)
	same(t, "a wrong word ahead of the last one", results(pick.Parse(brackets(100)+"?(")), results(api.Pick{}, 100, api.ErrSyntax))
	// Brackets side by side are not within one another.
	same(t, "many brackets", results(pick.Parse(closed(100)+"+"+closed(100)+"-"+closed(100))), results(less(join(one(1), one(1)), one(1)), 0, api.OK))
	// The selection would have too many levels, but only behind all its words.
	for prefix, length := range map[string]int{"odd": 3, "even": 4, "back": 4, "every 1 from 1": 14} {
		row := func(n int) string { return strings.Repeat(prefix+" ", n) }
		same(t, "100 times "+prefix, results(pick.Parse(row(100))), results(api.Pick{}, 100*(length+1), api.ErrSyntax))
		same(t, "101 times "+prefix, results(pick.Parse(row(101))), large)
		same(t, prefix+" within 100 brackets", results(pick.Parse(brackets(100)+prefix+" 1")), large)
		same(t, prefix+" within 99 brackets", results(pick.Parse(brackets(99)+prefix+" ?")), results(api.Pick{}, 99+length+1, api.ErrSyntax))
		same(t, "a bracket within 100 times "+prefix, results(pick.Parse(row(100)+"(")), large)
		// A prefix ends behind its Arg.
		same(t, "behind "+prefix, results(pick.Parse(brackets(99) + prefix + " 1+("))[1:], results(99+length+4, api.ErrSyntax))
	}
	// It is too much as soon as the word is met, whatever stands behind it.
	same(t, "every, and nothing behind it", results(pick.Parse(brackets(100)+"every")), large)
	same(t, "a prefix that touches a number", results(pick.Parse(brackets(100)+"odd1")), large)
	same(t, "group is no prefix", results(pick.Parse(brackets(100)+"group 1 ?")), results(api.Pick{}, 108, api.ErrSyntax))
}
