package cell_test

import (
	"fmt"
	"math/rand"
	"slices"
	"strconv"
	"strings"
	"testing"

	"ambidexter/api"
	"ambidexter/cell"
)

// exampleText is the description of the example.
const exampleText = `arm -87880000 0 20 15 5 2 -17 -17 -17 18 18 18 9 0 1
arm 87880000 -16 18 12 6 1 -9 -12 -3 9 12 0 -9 5 0
fixture -21970000 131820000 21970000 131820000 21970000 175760000 -21970000 175760000
fixture 0 0 4394000 -7 2197000 4394000
place left -43940000 43940000 274625 0
place Right_2 43940000 43940000 0 -274625
place p -16 32 266175 67600
place lower 0 -87880000 -201663 -186416
part bolt Right_2 -1 -2 3 -2 3 4 -1 4
part nut lower 0 0 10 -10 2 5
part p left -1 0 0 -1 1 0 0 1
belt 30 p left
limits 8 4 2
loaded 5 3 1
zone -175760000 -175760000 -145002000 -175760000 -145002000 -145002000 -175760000 -145002000
guard 3 2
`

// bareText is the description of a cell without fixtures, places, parts and zones.
const bareText = `arm -87880000 0 20 15 5 2 -17 -17 -17 18 18 18 9 0 1
arm 87880000 -16 18 12 6 1 -9 -12 -3 9 12 0 -9 5 0
belt 30
limits 8 4 2
loaded 5 3 1
guard 3 2
`

// lineOf returns the offset of line number i of a text and the line, from 0 on.
func lineOf(text string, i int) (int, string) {
	lines := strings.SplitAfter(text, "\n")
	return len(strings.Join(lines[:i], "")), lines[i]
}

// checkFormat compares Format with want.
func checkFormat(t *testing.T, what string, c api.Cell, want string) {
	t.Helper()
	if got := cell.Format(c); got != want {
		t.Errorf("%s: Format(%v) =\n%s, want\n%s", what, c, got, want)
	}
}

// checkParse compares Parse with want, and the text of a cell that it returns with its argument.
func checkParse(t *testing.T, what, s string, want answer) {
	t.Helper()
	c, l := cell.Parse(s)
	if !same(c, want.c) || !slices.Equal(l, want.l) {
		t.Errorf("%s: Parse(%q) = %v, %v, want %v, %v", what, s, c, l, want.c, want.l)
	}
	if len(l) == 0 && cell.Format(c) != s {
		t.Errorf("%s: the text of the cell that %q describes is %q", what, s, cell.Format(c))
	}
	if len(l) == 0 && !cell.Valid(c) {
		t.Errorf("%s: the cell that %q describes is not valid", what, s)
	}
}

// checkRefused checks that Parse returns a diagnostic.
func checkRefused(t *testing.T, what, s string, err api.Errno, at int) {
	t.Helper()
	checkParse(t, what, s, refusal(err, at))
}

// P9.1 (I3): texts that are written out.
func TestFormatExamples(t *testing.T) {
	checkFormat(t, "the example", example(), exampleText)
	checkFormat(t, "a bare cell", bare(), bareText)
	c := bare()
	c.Period = 0
	checkFormat(t, "a belt that does not move", c, strings.Replace(bareText, "belt 30\n", "belt 0\n", 1))
	c = example()
	c.Parts = nil
	_, bolt := lineOf(exampleText, 8)
	_, nut := lineOf(exampleText, 9)
	_, p := lineOf(exampleText, 10)
	checkFormat(t, "no parts", c, strings.Replace(exampleText, bolt+nut+p, "", 1))
	c.Fixtures, c.Zones = c.Fixtures[1:], append(c.Zones, api.Zone{Area: api.Polygon{pt(0, 0), pt(1, 0), pt(0, 1)}})
	_, fixture := lineOf(exampleText, 2)
	want := strings.Replace(strings.Replace(exampleText, bolt+nut+p, "", 1), fixture, "", 1)
	checkFormat(t, "two zones", c, strings.Replace(want, "guard", "zone 0 0 1 0 0 1\nguard", 1))
}

// P9.1 (I3): the texts of random cells, among them ones with 16 fixtures, places and zones and 8 parts, and ones with none.
func TestFormatOfRandomCells(t *testing.T) {
	r := rand.New(rand.NewSource(11))
	seen := map[string]int{}
	for range 3000 {
		c := drawCell(r)
		checkFormat(t, "random cell", c, textOf(c))
		for what, n := range map[string]int{"fixtures": len(c.Fixtures), "zones": len(c.Zones), "places": len(c.Places), "parts": len(c.Parts), "belt": len(c.Belt)} {
			seen[fmt.Sprint(what, n)]++
		}
	}
	for _, what := range []string{"fixtures0", "fixtures16", "zones0", "zones16", "places0", "places16", "parts0", "parts8", "belt0", "belt16"} {
		if seen[what] < 5 {
			t.Errorf("only %d cells with %s", seen[what], what)
		}
	}
}

// P9.1 (I4), P9.2: texts of valid cells that are written out.
func TestParseExamples(t *testing.T) {
	checkParse(t, "the example", exampleText, answer{c: example()})
	checkParse(t, "a bare cell", bareText, answer{c: bare()})
	c := bare()
	c.Places = []api.Place{{Name: "abcdefghijkl", At: units(-85, 85), Dir: left}, {Name: "Z", At: units(85, -85), Dir: up}}
	places := "place abcdefghijkl -373490000 373490000 -274625 0\nplace Z 373490000 -373490000 0 274625\n"
	checkParse(t, "places without parts", strings.Replace(bareText, "belt", places+"belt", 1), answer{c: c})
	c.Belt, c.Period = []int{1, 0}, 100
	checkParse(t, "places on the belt", strings.Replace(bareText, "belt 30", places+"belt 100 Z abcdefghijkl", 1), answer{c: c})
	c.Belt, c.Period = []int{0}, 0
	checkParse(t, "one place on the belt", strings.Replace(bareText, "belt 30", places+"belt 0 abcdefghijkl", 1), answer{c: c})
}

// P9.2 (round trip): random valid cells.
func TestRoundTripOfRandomCells(t *testing.T) {
	r := rand.New(rand.NewSource(12))
	for range 5000 {
		c := drawCell(r)
		got, l := cell.Parse(cell.Format(c))
		if len(l) > 0 || !same(got, c) || !cell.Equal(got, c) {
			t.Fatalf("Parse(Format(%v)) = %v, %v", c, got, l)
		}
		checkParse(t, "random cell", textOf(c), answer{c: c})
	}
}

// P9.1 (I4): texts without any line, and the example text cut off at each byte.
func TestParseOfIncompleteTexts(t *testing.T) {
	checkRefused(t, "the empty string", "", api.ErrEnd, 0)
	for _, s := range []string{"a", "arm", " ", "x y z", "guard 3 2", "\x00", "é"} {
		checkRefused(t, "a final piece alone", s, api.ErrEnd, len(s))
	}
	for _, text := range []string{exampleText, bareText} {
		for n := range len(text) {
			checkRefused(t, "cut off", text[:n], api.ErrEnd, n)
		}
		lines := strings.SplitAfter(text, "\n")
		for i := range lines[:len(lines)-1] {
			s := strings.Join(lines[:i], "")
			checkRefused(t, "cut off after a line", s, api.ErrEnd, len(s))
			for _, piece := range []string{" ", "x", "guard", "guard 3 2", "arm 1", "\r", "fixture 1", "\x00"} {
				checkRefused(t, "a final piece behind an incomplete description", s+piece, api.ErrEnd, len(s+piece))
			}
		}
	}
}

// P9.1 (I4): final pieces behind complete descriptions of a valid and of an invalid cell, and behind a bad line.
func TestParseOfFinalPieces(t *testing.T) {
	invalid := strings.Replace(exampleText, "guard 3 2", "guard 3 0", 1)
	at, _ := lineOf(exampleText, 13)
	bad := strings.Replace(exampleText, "loaded 5 3 1", "loaded 5 3 ", 1)
	for _, piece := range []string{" ", "x", "guard 3 2", "zone 0 0 1 0 0 1", "\t", "\r", "\x00"} {
		for _, text := range []string{exampleText, bareText, invalid} {
			checkRefused(t, "a final piece behind a complete description", text+piece, api.ErrEnd, len(text+piece))
		}
		checkRefused(t, "a final piece behind a bad line", bad+piece, api.ErrForm, at)
	}
}

// P9.1 (I4): lines behind guard, whatever they are.
func TestParseOfLinesBehindGuard(t *testing.T) {
	for _, text := range []string{exampleText, bareText, strings.Replace(exampleText, "guard 3 2", "guard -1 0", 1)} {
		for _, more := range []string{"\n", "guard 3 2\n", "zone 0 0 1 0 0 1\n", "arm 0 0 1 1 1 1 0 0 0 0 0 0 0 0 0\n", "x\n", " \n", "\n\n", "\nx", "guard 3 2\nx", exampleText} {
			checkRefused(t, "a line behind guard", text+more, api.ErrForm, len(text))
		}
	}
}

// P9.1 (I4): which kinds of lines may follow each other: one line more behind the first ones of the example.
func TestParseOfLinesInAnyOrder(t *testing.T) {
	lines := strings.SplitAfter(exampleText, "\n")
	lines = lines[:len(lines)-1]
	following := map[string]string{
		"": "arm", "arm": "arm", "arm arm": "fixture place part belt", "fixture": "fixture place part belt", "place": "place part belt", "part": "part belt",
		"belt": "limits", "limits": "loaded", "loaded": "zone guard", "zone": "zone guard", "guard": "",
	}
	for i := range len(lines) + 1 {
		s, last := strings.Join(lines[:i], ""), ""
		if i > 0 {
			last, _, _ = strings.Cut(lines[i-1], " ")
		}
		if i == 2 {
			last = "arm arm"
		}
		for _, line := range lines {
			word, _, _ := strings.Cut(line, " ")
			// Parts and belts that name unknown places have a test of their own.
			switch {
			case word == "belt":
				line = "belt 30\n"
			case word == "part" && i < 5:
				continue
			case word == "part":
				line = "part x left 0 0 1 0 0 1\n"
			}
			if slices.Contains(strings.Fields(following[last]), word) {
				checkParse(t, "a line that may follow", s+line, answerAtEnd(s+line))
			} else {
				checkRefused(t, "a line that may not follow", s+line, api.ErrForm, len(s))
			}
		}
	}
}

// answerAtEnd is the answer to acceptable lines of the example with one more line: complete ones end with guard.
func answerAtEnd(s string) answer {
	if strings.HasSuffix(s, "guard 3 2\n") {
		return answerTo(s)
	}
	return refusal(api.ErrEnd, len(s))
}

// P9.1 (I4): a line removed, doubled, or exchanged with another one.
func TestParseOfReorderedLines(t *testing.T) {
	for _, text := range []string{exampleText, bareText} {
		lines := strings.SplitAfter(text, "\n")
		lines = lines[:len(lines)-1]
		for i := range lines {
			removed := strings.Join(slices.Delete(slices.Clone(lines), i, i+1), "")
			checkParse(t, "a line removed", removed, answerTo(removed))
			for j := range lines {
				doubled := strings.Join(slices.Insert(slices.Clone(lines), j, lines[i]), "")
				checkParse(t, "a line added", doubled, answerTo(doubled))
				l := slices.Clone(lines)
				l[i], l[j] = l[j], l[i]
				exchanged := strings.Join(l, "")
				checkParse(t, "two lines exchanged", exchanged, answerTo(exchanged))
			}
		}
	}
	at, _ := lineOf(exampleText, 2)
	lines := strings.SplitAfter(exampleText, "\n")
	checkRefused(t, "three arms", lines[0]+lines[1]+lines[0]+strings.Join(lines[2:], ""), api.ErrForm, at)
	checkRefused(t, "one arm", strings.Join(lines[1:], ""), api.ErrForm, len(lines[1]))
	checkRefused(t, "no arms", strings.Join(lines[2:], ""), api.ErrForm, 0)
	checkRefused(t, "no belt", strings.Replace(bareText, "belt 30\n", "", 1), api.ErrForm, len(lines[0]+lines[1]))
	checkRefused(t, "only guard", "guard 3 2\n", api.ErrForm, 0)
}

// replaced returns the example text in which line number i is another one, and the offset of that line.
func replaced(i int, line string) (string, int) {
	at, old := lineOf(exampleText, i)
	return exampleText[:at] + line + exampleText[at+len(old):], at
}

// checkBadLine checks that the example text with another line number i is refused because of this line, and because of nothing if a text without it comes first.
func checkBadLine(t *testing.T, what string, i int, line string) {
	t.Helper()
	s, at := replaced(i, line)
	checkRefused(t, what, s, api.ErrForm, at)
	checkRefused(t, what+", and nothing else", s[:at+len(line)], api.ErrForm, at)
	checkRefused(t, what+", without a line feed", strings.TrimSuffix(s[:at+len(line)], "\n"), api.ErrEnd, at+len(line)-1)
}

// P9.1 (I4): missing and additional words, two blanks, and blanks at the beginning and the end, at each word of each line.
func TestParseOfWordsAndBlanks(t *testing.T) {
	for i := range 16 {
		_, line := lineOf(exampleText, i)
		words := strings.Split(strings.TrimSuffix(line, "\n"), " ")
		join := func(words []string) string { return strings.Join(words, " ") + "\n" }
		checkBadLine(t, "a blank at the beginning", i, " "+line)
		checkBadLine(t, "a blank at the end", i, join(words)[:len(line)-1]+" \n")
		checkBadLine(t, "two blanks at the end", i, join(words)[:len(line)-1]+"  \n")
		checkBadLine(t, "a carriage return at the end", i, join(words)[:len(line)-1]+"\r\n")
		checkBadLine(t, "a tab at the beginning", i, "\t"+line)
		checkBadLine(t, "an empty line", i, "\n")
		s, at := replaced(i, "\n"+line)
		checkRefused(t, "an empty line before it", s, api.ErrForm, at)
		checkBadLine(t, "a blank alone", i, " \n")
		checkBadLine(t, "no first word", i, join(words[1:]))
		checkBadLine(t, "an unknown first word", i, join(append([]string{"arms"}, words[1:]...)))
		checkBadLine(t, "a first word in capitals", i, join(append([]string{strings.ToUpper(words[0])}, words[1:]...)))
		checkBadLine(t, "a part of the first word", i, line[1:])
		checkBadLine(t, "an additional word", i, join(append(slices.Clone(words), "x")))
		for j := 1; j < len(words); j++ {
			checkBadLine(t, "two blanks", i, join(slices.Insert(slices.Clone(words), j, "")))
			checkBadLine(t, "a tab", i, strings.Join(words[:j], " ")+"\t"+join(words[j:]))
			s, _ := replaced(i, join(slices.Delete(slices.Clone(words), j, j+1)))
			checkParse(t, "a missing word", s, answerTo(s))
			for _, word := range []string{"0", "left", words[j]} {
				s, _ := replaced(i, join(slices.Insert(slices.Clone(words), j, word)))
				checkParse(t, "an additional word", s, answerTo(s))
			}
		}
	}
	for i, least := range map[int]int{0: 16, 1: 16, 4: 6, 5: 6, 11: 2, 12: 4, 13: 4, 15: 3} {
		_, line := lineOf(exampleText, i)
		words := strings.Split(strings.TrimSuffix(line, "\n"), " ")
		for n := 1; n < least; n++ {
			checkBadLine(t, "too few words", i, strings.Join(words[:n], " ")+"\n")
		}
		if i != 11 {
			checkBadLine(t, "too many words", i, strings.TrimSuffix(line, "\n")+" 0\n")
			checkBadLine(t, "too many words", i, strings.TrimSuffix(line, "\n")+" 0 0\n")
		}
	}
}

// numberPlaces calls f with the index of each line of the example, and with the index of each word of it that is a number.
func numberPlaces(f func(i, j int, words []string)) {
	for i := range 16 {
		_, line := lineOf(exampleText, i)
		words := strings.Split(strings.TrimSuffix(line, "\n"), " ")
		for j, word := range words {
			if _, err := strconv.Atoi(word); err == nil {
				f(i, j, slices.Clone(words))
			}
		}
	}
}

// P9.1 (I4): in the place of each number, words that are no numbers and forms that no number has.
func TestParseOfBadNumbers(t *testing.T) {
	n := 0
	numberPlaces(func(i, j int, words []string) {
		n++
		old := words[j]
		for _, word := range []string{
			"+1", "+0", "+" + old, "00", "01", "-01", "-00", "-0", "0" + old, "-", "--1", "-+1", "+", "--", "1-", "1-1", "0x1", "0b1", "0o7", "1e3", "1.0", ".5", "1_0", "_1", "1,", "'1'", "\"1\"",
			"x", "a1", "1a", "left", "nan", "inf", "١", "１", "1\x00", "\x00", "1\r", "1\t", "\t1", "\xff", old + "\v", "−1",
			"1099511627777", "-1099511627777", "9223372036854775807", "-9223372036854775808", "9223372036854775808", "18446744073709551616", "18446744073709551617", "-18446744073709551615",
			"99999999999999999999", strings.Repeat("9", 5000), "-" + strings.Repeat("1", 5000), "1" + strings.Repeat("0", 64), strings.Repeat("0", 5000), strings.Repeat("0", 30) + "1",
		} {
			words[j] = word
			checkBadLine(t, "no number", i, strings.Join(words, " ")+"\n")
		}
		words[j] = ""
		checkBadLine(t, "an empty word", i, strings.Join(words, " ")+"\n")
	})
	if n != 15+15+8+6+4*4+8+6+8+1+3+3+8+2 {
		t.Errorf("there are %d numbers", n)
	}
}

// P9.1 (I4): in the place of each number, numbers at the ends of their range, and others with which the cell is valid or not.
func TestParseOfNumbers(t *testing.T) {
	valid := 0
	numberPlaces(func(i, j int, words []string) {
		for _, word := range []string{"1099511627776", "-1099511627776", "1099511627775", "-1099511627775"} {
			words[j] = word
			s, _ := replaced(i, strings.Join(words, " ")+"\n")
			checkRefused(t, "a number at the end of the range", s, api.ErrCell, 0)
		}
		for n := -18; n <= 19; n++ {
			words[j] = strconv.Itoa(n)
			s, _ := replaced(i, strings.Join(words, " ")+"\n")
			want := answerTo(s)
			checkParse(t, "a small number", s, want)
			if len(want.l) == 0 {
				valid++
			}
		}
	})
	if valid < 100 {
		t.Errorf("only %d descriptions of valid cells", valid)
	}
}

// P9.1 (I4): lists of coordinates: an odd number is not acceptable, none at all and too many are acceptable and then invalid.
func TestParseOfCoordinates(t *testing.T) {
	for i, begin := range map[int]string{2: "fixture", 3: "fixture", 8: "part bolt Right_2", 10: "part p left", 14: "zone"} {
		for n := range 60 {
			line := begin + strings.Repeat(" 7", n) + "\n"
			if n%2 == 1 {
				checkBadLine(t, "an odd number of coordinates", i, line)
				continue
			}
			s, _ := replaced(i, line)
			checkRefused(t, "corners that are no polygon", s, api.ErrCell, 0)
		}
	}
	for i, begin := range map[int]string{2: "fixture", 8: "part bolt Right_2", 14: "zone"} {
		_, line := lineOf(exampleText, i)
		words := strings.Split(strings.TrimSuffix(line, "\n"), " ")
		first := len(strings.Split(begin, " "))
		for n := first; n < len(words); n++ {
			s, at := replaced(i, strings.Join(words[:n], " ")+"\n")
			switch {
			case (n-first)%2 == 1:
				checkRefused(t, "a coordinate without another", s, api.ErrForm, at)
			case n-first < 6:
				checkRefused(t, "too few corners", s, api.ErrCell, 0)
			default:
				checkParse(t, "three corners", s, answerTo(s))
			}
		}
	}
	checkBadLine(t, "a part without a place", 8, "part bolt\n")
	checkBadLine(t, "a part without anything", 8, "part\n")
	checkBadLine(t, "a fixture with a blank", 2, "fixture \n")
	checkBadLine(t, "a zone with a blank", 14, "zone \n")
	checkBadLine(t, "a part with a blank", 8, "part bolt Right_2 \n")
}

// P9.1 (I4): parts and belts that name unknown places, places of later lines and parts.
func TestParseOfReferences(t *testing.T) {
	for _, name := range []string{"x", "Left", "lef", "leftt", "left\r", "0", "bolt", "Right_", "nut", "place", "\x00", "le\xffft"} {
		checkBadLine(t, "a part at an unknown place", 8, "part bolt "+name+" -1 -2 3 -2 3 4 -1 4\n")
		checkBadLine(t, "a belt that begins with an unknown place", 11, "belt 30 "+name+" left\n")
		checkBadLine(t, "a belt that ends with an unknown place", 11, "belt 30 left "+name+"\n")
		checkBadLine(t, "a belt along an unknown place", 11, "belt 30 "+name+"\n")
	}
	for _, name := range []string{"left", "Right_2", "p", "lower"} {
		s, _ := replaced(8, "part bolt "+name+" -1 -2 3 -2 3 4 -1 4\n")
		checkParse(t, "a part at a known place", s, answerTo(s))
		s, _ = replaced(11, "belt 30 "+name+"\n")
		checkParse(t, "a belt along a known place", s, answerTo(s))
		s, _ = replaced(11, "belt 30 left p "+name+" lower\n")
		checkParse(t, "a belt along known places", s, answerTo(s))
	}
	first, _ := lineOf(exampleText, 4)
	second, _ := lineOf(exampleText, 5)
	_, part := lineOf(exampleText, 10)
	later := exampleText[:first] + part + exampleText[first:]
	checkRefused(t, "a part before its place", later, api.ErrForm, first)
	known := exampleText[:second] + part + exampleText[second:]
	checkRefused(t, "a part behind its place, and a place behind the part", known, api.ErrForm, second+len(part))
	belt := exampleText[:first] + "belt 30 p left\n" + exampleText[first:]
	checkRefused(t, "a belt before its places", belt, api.ErrForm, first)
	bareBelt := strings.Replace(bareText, "belt 30", "belt 30 left", 1)
	at, _ := lineOf(bareText, 2)
	checkRefused(t, "a belt without any place", bareBelt, api.ErrForm, at)
}

// P9.1 (I4): a name that two places have is acceptable, also where it is referred to, and the cell is then invalid.
func TestParseOfEqualNames(t *testing.T) {
	twice := strings.Replace(exampleText, "place p ", "place left ", 1)
	at, _ := lineOf(twice, 11)
	checkRefused(t, "a belt along a name that no place has any more", twice, api.ErrForm, at)
	twice = strings.Replace(twice, "belt 30 p left", "belt 30 left", 1)
	checkRefused(t, "two places of one name", twice, api.ErrCell, 0)
	checkRefused(t, "two parts of one name", strings.Replace(exampleText, "part nut", "part bolt", 1), api.ErrCell, 0)
	checkRefused(t, "two parts at one place", strings.Replace(exampleText, "nut lower", "nut left", 1), api.ErrCell, 0)
	checkRefused(t, "a place twice on the belt", strings.Replace(exampleText, "belt 30 p", "belt 30 left", 1), api.ErrCell, 0)
	checkRefused(t, "two places of one name, and a final piece", twice+"x", api.ErrEnd, len(twice)+1)
}

// P9.1 (I4): a name of any form is acceptable, and the cell is then invalid unless the name is valid.
func TestParseOfNames(t *testing.T) {
	for _, name := range []string{
		"x", "abcdefghijkl", "abcdefghijklm", strings.Repeat("y", 3000), "1", "-1", "0", "99999999999999999999", "_a", "a_", "é", "\x00", "\xff", "a\tb", "\r", "a-b", "arm", "guard", "belt", "place", "\"", "a.b", "+1", "007",
	} {
		part := strings.Replace(exampleText, "part nut ", "part "+name+" ", 1)
		place := strings.Replace(exampleText, "place lower ", "place "+name+" ", 1)
		place = strings.Replace(place, "nut lower ", "nut "+name+" ", 1)
		for _, s := range []string{part, place} {
			want := answerTo(s)
			if valid := len(want.l) == 0; valid != nameForm.MatchString(name) || !valid && want.l[0] != (api.Diagnostic{Err: api.ErrCell}) {
				t.Errorf("the answer to %q is %v", s, want.l)
			}
			checkParse(t, "a name", s, want)
		}
	}
	checkBadLine(t, "a place without a name", 4, "place  -43940000 43940000 274625 0\n")
	checkBadLine(t, "a part without a name", 8, "part  Right_2 -1 -2 3 -2 3 4 -1 4\n")
	checkBadLine(t, "a part without the name of a place", 8, "part bolt  -1 -2 3 -2 3 4 -1 4\n")
	checkBadLine(t, "a belt with an empty name", 11, "belt 30  left\n")
	checkBadLine(t, "a place of which a coordinate is the name", 4, "place -43940000 43940000 274625 0\n")
}

// P9.1 (I4): descriptions of the right form of invalid cells, each of which breaks one condition.
func TestParseOfInvalidCells(t *testing.T) {
	change := func(old, new string) string {
		if strings.Count(exampleText, old) != 1 {
			t.Fatalf("%q does not occur once", old)
		}
		return strings.Replace(exampleText, old, new, 1)
	}
	for _, s := range []string{
		change("arm -87880000 0 ", "arm -87880001 0 "),
		change("18 12 6 1", "41 12 6 1"),
		change("18 12 6 1", "18 12 6 5"),
		change("18 18 18 9 0 1", "18 18 18 19 0 1"),
		change("-9 5 0\n", "-9 13 0\n"),
		change("arm -87880000 ", "arm -400000000 "),
		change("fixture 0 0 4394000 -7 ", "fixture 2197000 4394000 4394000 -7 "),
		change("fixture 0 0 ", strings.Repeat("fixture 0 0 1 0 0 1\n", 15)+"fixture 0 0 "),
		change("guard", strings.Repeat("zone 0 0 1 0 0 1\n", 16)+"guard"),
		change("place left -43940000 ", "place left -43940001 "),
		change("place left -43940000 ", "place left -373490016 "),
		change("place left -43940000 43940000 274625 0", "place left -43940000 43940000 4225 0"),
		change("place left -43940000 43940000 274625 0", "place left -43940000 43940000 274624 0"),
		change("part nut lower 0 0 10 -10", "part nut lower 0 0 11 -10"),
		change("part nut lower 0 0 10 -10 2 5", "part nut lower 0 0 2 5 10 -10"),
		change("belt 30", "belt 101"),
		change("belt 30", "belt -1"),
		change("limits 8", "limits 9"),
		change("loaded 5 3 1", "loaded 5 3 3"),
		change("loaded 5 3 1", "loaded 5 0 1"),
		change("guard 3 2", "guard 21 2"),
		change("guard 3 2", "guard 3 9"),
		change("guard 3 2", "guard 3 0"),
		change("guard", "zone\nguard"),
	} {
		checkRefused(t, "an invalid cell", s, api.ErrCell, 0)
		checkRefused(t, "an invalid cell, cut off", s[:len(s)-1], api.ErrEnd, len(s)-1)
		checkRefused(t, "an invalid cell, with one more line", s+"\n", api.ErrForm, len(s))
		bad := strings.Replace(s, "loaded", "unloaded", 1)
		checkRefused(t, "an invalid cell, with a bad line", bad, api.ErrForm, strings.Index(bad, "unloaded"))
	}
	var c api.Cell
	zeros := "arm" + strings.Repeat(" 0", 15) + "\n"
	checkFormat(t, "the zero cell", c, zeros+zeros+"belt 0\nlimits 0 0 0\nloaded 0 0 0\nguard 0 0\n")
	checkRefused(t, "the text of the zero cell", zeros+zeros+"belt 0\nlimits 0 0 0\nloaded 0 0 0\nguard 0 0\n", api.ErrCell, 0)
}

// P9.1 (I4): 16 and 17 fixtures, places and zones, and 8 and 9 parts.
func TestParseOfManyLines(t *testing.T) {
	var places, parts string
	for i := range 17 {
		places += fmt.Sprintf("place place%d 0 %d 0 274625\n", i, 16*i)
		parts += fmt.Sprintf("part part%d place%d 0 0 1 0 0 1\n", i, i)
	}
	_, last := lineOf(places, 16)
	_, ninth := lineOf(parts, 8)
	eight, _ := lineOf(parts, 8)
	for _, x := range []struct {
		what, old, new string
		valid          bool
	}{
		{"16 fixtures", "belt", strings.Repeat("fixture 0 0 1 0 0 1\n", 16) + "belt", true},
		{"17 fixtures", "belt", strings.Repeat("fixture 0 0 1 0 0 1\n", 17) + "belt", false},
		{"16 zones", "guard", strings.Repeat("zone 0 0 1 0 0 1\n", 16) + "guard", true},
		{"17 zones", "guard", strings.Repeat("zone 0 0 1 0 0 1\n", 17) + "guard", false},
		{"16 places", "belt", strings.TrimSuffix(places, last) + "belt", true},
		{"17 places", "belt", places + "belt", false},
		{"8 parts", "belt", strings.TrimSuffix(places, last) + parts[:eight] + "belt", true},
		{"9 parts", "belt", strings.TrimSuffix(places, last) + parts[:eight] + ninth + "belt", false},
		{"100000 fixtures", "belt", strings.Repeat("fixture\n", 100000) + "belt", false},
		{"100000 zones", "guard", strings.Repeat("zone 0 0\n", 100000) + "guard", false},
		{"100000 places", "belt", strings.Repeat("place x 0 0 0 0\n", 100000) + "belt", false},
	} {
		s := strings.Replace(bareText, x.old, x.new, 1)
		c, l := cell.Parse(s)
		if x.valid && (len(l) > 0 || !same(c, answerTo(s).c) || cell.Format(c) != s) || !x.valid && (!same(c, api.Cell{}) || !slices.Equal(l, refusal(api.ErrCell, 0).l)) {
			t.Errorf("%s: %v, %v", x.what, c, l)
		}
		c, l = cell.Parse(s + "x\n")
		if !same(c, api.Cell{}) || !slices.Equal(l, refusal(api.ErrForm, len(s)).l) {
			t.Errorf("%s, and a bad line: %v, %v", x.what, c, l)
		}
	}
}

// P9.1 (I4): parts and belts refer to many places.
func TestParseOfManyReferences(t *testing.T) {
	var s strings.Builder
	for i := range 50000 {
		fmt.Fprintf(&s, "place n%d 0 0 0 0\n", i)
	}
	for i := range 50000 {
		fmt.Fprintf(&s, "part q n%d\n", 49999-i)
	}
	text := strings.Replace(bareText, "belt", s.String()+"belt", 1)
	if c, l := cell.Parse(text); !same(c, api.Cell{}) || !slices.Equal(l, refusal(api.ErrCell, 0).l) {
		t.Errorf("50000 places and parts: %v", l)
	}
	bad := strings.Replace(text, "part q n0\n", "part q n50000\n", 1)
	if _, l := cell.Parse(bad); !slices.Equal(l, refusal(api.ErrForm, strings.Index(bad, "part q n50000\n")).l) {
		t.Errorf("an unknown place behind 50000 others: %v", l)
	}
}

// P9.1 (I4): the first of several bad lines is the one that is named.
func TestParseNamesTheFirstBadLine(t *testing.T) {
	lines := strings.SplitAfter(exampleText, "\n")
	lines = lines[:len(lines)-1]
	for i := range lines {
		for j := i; j < len(lines); j++ {
			for _, bad := range []string{"\n", "x\n", "guard\n", "arm 1\n", "zone 1\n", "fixture 00 0\n", lines[0] + "\x00\n"} {
				if bad == lines[0]+"\x00\n" && i < 2 {
					continue
				}
				l := slices.Clone(lines)
				l[i], l[j] = bad, bad
				checkRefused(t, "bad lines", strings.Join(l, ""), api.ErrForm, len(strings.Join(lines[:i], "")))
				checkRefused(t, "bad lines and a final piece", strings.Join(l, "")+"x", api.ErrForm, len(strings.Join(lines[:i], "")))
			}
		}
	}
}

// P9.1 (I4), P9.2: each byte of a text removed, doubled, and replaced by others, and others inserted before it.
func TestParseOfDisturbedTexts(t *testing.T) {
	others := []byte{' ', '\n', '-', '0', '1', '9', 'a', '_', '+', '\t', '\r', 0, 0xff}
	valid := 0
	check := func(what, s string) {
		t.Helper()
		want := answerTo(s)
		checkParse(t, what, s, want)
		if len(want.l) == 0 {
			valid++
		}
	}
	for _, text := range []string{exampleText, bareText} {
		for i := range len(text) {
			check("a byte removed", text[:i]+text[i+1:])
			check("a byte doubled", text[:i+1]+text[i:])
			for _, b := range others {
				check("a byte replaced", text[:i]+string([]byte{b})+text[i+1:])
				check("a byte inserted", text[:i]+string([]byte{b})+text[i:])
			}
		}
	}
	if valid < 300 {
		t.Errorf("only %d descriptions of valid cells", valid)
	}
}

// P9.1 (I4), P9.2: random texts of valid cells in which words and lines are removed, doubled, moved and replaced.
func TestParseOfRandomTexts(t *testing.T) {
	r := rand.New(rand.NewSource(13))
	seen := map[api.Errno]int{}
	pieces := []string{" ", "\n", "0", "1", "-1", "-0", "00", "16", "274625", "arm", "fixture", "place", "part", "belt", "limits", "loaded", "zone", "guard", "left", "1099511627776", "1099511627777"}
	for range 30000 {
		c := drawCell(r)
		c.Fixtures, c.Zones, c.Places, c.Parts, c.Belt = c.Fixtures[:min(len(c.Fixtures), 2)], c.Zones[:min(len(c.Zones), 2)], c.Places[:min(len(c.Places), 4)], nil, nil
		s := disturbText(r, textOf(c), pieces)
		want := answerTo(s)
		checkParse(t, "random text", s, want)
		if len(want.l) > 0 {
			seen[want.l[0].Err]++
		} else {
			seen[api.OK]++
		}
		if t.Failed() {
			return
		}
	}
	if min(seen[api.OK], seen[api.ErrForm], seen[api.ErrEnd], seen[api.ErrCell]) < 1000 {
		t.Errorf("numbers of diagnostics: %v", seen)
	}
}

// disturbText changes a text at a random place.
func disturbText(r *rand.Rand, s string, pieces []string) string {
	separator := []string{" ", "\n", ""}[r.Intn(3)]
	if separator == "" {
		i := r.Intn(len(s) + 1)
		return s[:i] + []string{"", pieces[r.Intn(len(pieces))] + s[i:]}[r.Intn(2)]
	}
	l := strings.Split(s, separator)
	i, j := r.Intn(len(l)), r.Intn(len(l))
	switch r.Intn(4) {
	case 0:
		l[i], l[j] = l[j], l[i]
	case 1:
		l = slices.Delete(l, i, i+1)
	case 2:
		l = slices.Insert(l, i, l[j])
	case 3:
		l[i] = pieces[r.Intn(len(pieces))]
	}
	return strings.Join(l, separator)
}

// P2: a string that is refused has the zero cell and exactly one diagnostic.
func TestRefusalsHaveZeroValues(t *testing.T) {
	for _, s := range []string{"", "x\n", exampleText + "x", exampleText + "\n", strings.Replace(exampleText, "guard 3 2", "guard 3 0", 1), exampleText[:400]} {
		if c, l := cell.Parse(s); len(l) != 1 || !same(c, api.Cell{}) {
			t.Errorf("Parse(%q) = %v, %v", s, c, l)
		}
	}
}
