package parser_test

import (
	"fmt"
	"math/rand"
	"slices"
	"strings"
	"sync"
	"testing"

	"ambidexter/api"
	"ambidexter/lexer"
	"ambidexter/parser"
)

// P11.1 (K1): the examples of the chapter, with all fields of the statements.
func TestExamples(t *testing.T) {
	checkAnswer(t, "example", "go 1 (0, -3, 4);", answer{l: []api.Stmt{{Kind: api.Go, Arm: 1, To: [2]api.Joints{{}, {0, -3, 4}}}}})
	checkAnswer(t, "example", "go 2 (0, 0, 0); home 0;", answer{
		l: []api.Stmt{{Kind: api.Home, At: 16}}, faults: []api.Diagnostic{{Err: api.ErrSyntax, At: 3}},
	})
	checkAnswer(t, "example", "when belt cup { pick 0 cup; ", answer{faults: []api.Diagnostic{{Err: api.ErrEnd, At: 28}}})
	checkAnswer(t, "example", "home 0", answer{faults: []api.Diagnostic{{Err: api.ErrEnd, At: 6}}})
}

// P11.1 (K1): each kind of statement, with all fields.
func TestEachKind(t *testing.T) {
	for text, want := range map[string]api.Stmt{
		"go 0 (1, -2, 3);":                    {Kind: api.Go, To: [2]api.Joints{{1, -2, 3}, {}}},
		"go 1 (-17, 18, 999999999);":          {Kind: api.Go, Arm: 1, To: [2]api.Joints{{}, {-17, 18, 999999999}}},
		"home 0;":                             {Kind: api.Home},
		"home 1;":                             {Kind: api.Home, Arm: 1},
		"pick 0 cup;":                         {Kind: api.Pick, Part: "cup"},
		"pick 1 A1_b2_C3_d4_;":                {Kind: api.Pick, Arm: 1, Part: "A1_b2_C3_d4_"},
		"put 0 belt;":                         {Kind: api.Put, Place: "belt"},
		"put 1 x;":                            {Kind: api.Put, Arm: 1, Place: "x"},
		"hand 0 belt;":                        {Kind: api.Hand, Place: "belt"},
		"hand 1 Go;":                          {Kind: api.Hand, Arm: 1, Place: "Go"},
		"wait 0;":                             {Kind: api.Wait},
		"wait 999999999;":                     {Kind: api.Wait, N: 999999999},
		"wait -999999999;":                    {Kind: api.Wait, N: -999999999},
		"when belt cup { }":                   {Kind: api.When, Place: "belt", Part: "cup"},
		"both (1, 2, 3) (4, 5, 6);":           {Kind: api.Both, To: [2]api.Joints{{1, 2, 3}, {4, 5, 6}}},
		"both (0, 0, 0) (-123456789, -1, 0);": {Kind: api.Both, To: [2]api.Joints{{}, {-123456789, -1, 0}}},
		"when a b { pick 1 c; put 0 d; }": {Kind: api.When, Place: "a", Part: "b", Kids: []api.Stmt{
			{Kind: api.Pick, Arm: 1, Part: "c", At: 11}, {Kind: api.Put, Place: "d", At: 21},
		}},
		"when a b { when c d { wait 3; } home 1; }": {Kind: api.When, Place: "a", Part: "b", Kids: []api.Stmt{
			{Kind: api.When, Place: "c", Part: "d", At: 11, Kids: []api.Stmt{{Kind: api.Wait, N: 3, At: 22}}},
			{Kind: api.Home, Arm: 1, At: 32},
		}},
	} {
		checkAnswer(t, "one statement", text, answer{l: []api.Stmt{want}})
		tight := strings.NewReplacer(", ", ",", ") (", ")(", " (", "(", " {", "{", "{ ", "{").Replace(text)
		if l, faults := parser.Parse(tight); len(faults) > 0 || !areEqual(l, []api.Stmt{want}) {
			t.Errorf("Parse(%q) = %v, %v, want %v", tight, l, faults, want)
		}
	}
}

// P11.1 (K1): texts without statements.
func TestNoStatements(t *testing.T) {
	for _, s := range []string{
		"", " ", "\n", "\t\r\n ", "#", "# go 0", "# home 0;\n", "#}\n", " # a\n# b", "#\n#\n\n#", strings.Repeat(" ", 20000), strings.Repeat("#\n", 10000), "#" + strings.Repeat("}", 19999),
	} {
		checkParse(t, "no statements", s, "")
	}
}

// P11.1 (K1), P2: texts that the lexer rejects have no statements, and the lexer's error with its offset as the only fault.
func TestLexerErrors(t *testing.T) {
	for _, x := range []struct {
		s     string
		fault api.Diagnostic
	}{
		{"-", api.Diagnostic{Err: api.ErrToken}},
		{"home 0; ~", api.Diagnostic{Err: api.ErrToken, At: 8}},
		{"home 0; home 00;", api.Diagnostic{Err: api.ErrToken, At: 13}},
		{"home -0;", api.Diagnostic{Err: api.ErrToken, At: 5}},
		{"go 00 (0, 0, 0);", api.Diagnostic{Err: api.ErrToken, At: 3}},
		{"go 0 (0, 0, 01);", api.Diagnostic{Err: api.ErrToken, At: 12}},
		{"wait 1000000000;", api.Diagnostic{Err: api.ErrToken, At: 5}},
		{"wait -1000000000;", api.Diagnostic{Err: api.ErrToken, At: 5}},
		{"wait 7x; home 0;", api.Diagnostic{Err: api.ErrToken, At: 5}},
		{"pick 0 _a;", api.Diagnostic{Err: api.ErrToken, At: 7}},
		{"} } } foo ; go go \xff", api.Diagnostic{Err: api.ErrToken, At: 18}},
		{"home 0", api.Diagnostic{Err: api.ErrEnd, At: 6}},
		{"home 0.", api.Diagnostic{Err: api.ErrToken, At: 6}},
		{"home 0;" + strings.Repeat(" ", 19994), api.Diagnostic{Err: api.ErrBig}},
		{strings.Repeat("~", 20001), api.Diagnostic{Err: api.ErrBig}},
		{strings.Repeat("home 0; ", 2501), api.Diagnostic{Err: api.ErrBig}},
	} {
		got := checkAnswer(t, "the lexer's error", x.s, answer{faults: []api.Diagnostic{x.fault}})
		if got.l != nil {
			t.Errorf("Parse(%s) = %v", brief(x.s), got.l)
		}
	}
	checkParse(t, "20000 bytes", "home 0;"+strings.Repeat(" ", 19993), "0:home 0;")
	checkParse(t, "20000 bytes", strings.Repeat("#", 19992)+"\nhome 0;", "19993:home 0;")
}

// kinds are statements of each kind, without statements within.
var kinds = []string{
	"go 1 ( 0 , -3 , 4 ) ;", "home 0 ;", "pick 1 cup ;", "put 0 belt ;", "hand 1 tray ;", "wait 20 ;", "when belt cup { }", "both ( 1 , 2 , 3 ) ( 4 , 5 , 6 ) ;",
}

// around calls f with a text alone, and with it behind, in front of and between statements, and within Whens.
func around(s string, f func(s string)) {
	for _, x := range []string{
		"*", "home 1; *", "* home 1;", "home 0; * wait 1;", "when a b { * }", "when a b { home 1; * } put 0 c;",
		"when a b { when c d { * } * }", "when a b { when c d { when e f { when g h { * } } } } wait 2;", "* }", "* ;",
	} {
		f(strings.ReplaceAll(x, "*", s))
	}
}

// P11.1 (K1): each kind of statement, with each of its tokens left out, doubled and replaced by one of another kind.
func TestChangedTokens(t *testing.T) {
	others := []string{"go", "when", "home", "cup", "abcdefghijklm", "0", "1", "2", "-1", "999999999", "(", ")", "{", "}", ";", ","}
	faulty := 0
	for _, kind := range kinds {
		tokens := strings.Fields(kind)
		check := func(what string, changed []string) {
			t.Helper()
			around(strings.Join(changed, " "), func(s string) {
				if got := checkText(t, what, s); len(got.faults) > 0 {
					faulty++
				}
			})
		}
		check("unchanged", tokens)
		for i := range tokens {
			check("left out", slices.Delete(slices.Clone(tokens), i, i+1))
			check("doubled", slices.Insert(slices.Clone(tokens), i, tokens[i]))
			for _, other := range others {
				check("added", slices.Insert(slices.Clone(tokens), i, other))
				check("replaced", slices.Replace(slices.Clone(tokens), i, i+1, other))
			}
		}
	}
	if faulty < 10000 {
		t.Errorf("only %d faulty texts", faulty)
	}
}

// P11.1 (K1): the first token that cannot occur at its position, for each position of each kind but the first one.
func TestFirstTokenThatCannotOccur(t *testing.T) {
	for _, kind := range kinds {
		tokens := strings.Fields(kind)
		for i := 1; i < len(tokens); i++ {
			before := strings.Join(tokens[:i], " ") + " "
			at := len(before)
			checkParse(t, "the end", before, "", ended(at))
			checkParse(t, "the end without a blank", before[:at-1], "", ended(at-1))
			wrong := "hand x y 5 wait ) ; home 1;"
			if tokens[i] == "}" { // another statement may begin here
				checkParse(t, "a wrong token", before+wrong+" }", fmt.Sprintf("0:when belt cup { %d:home 1; }", at+20), syntax(at+5))
				continue
			}
			checkParse(t, "a wrong token", before+wrong, fmt.Sprintf("%d:home 1;", at+20), syntax(at))
			checkParse(t, "a closing bracket", before+"} home 1;", fmt.Sprintf("%d:home 1;", at+2), syntax(at), syntax(at))
			if tokens[i] != ";" {
				checkParse(t, "a semicolon", before+"; home 1;", fmt.Sprintf("%d:home 1;", at+2), syntax(at))
			}
		}
	}
	for _, first := range []string{"cup", "0", "-1", "(", ")", "{", ",", "abcdefghijklm"} {
		checkParse(t, "a wrong token where a statement begins", first+" x y 5 wait ; home 1;", fmt.Sprintf("%d:home 1;", len(first)+14), syntax(0))
	}
}

// P11.1 (K1): keywords where names are asked for, and names where keywords are asked for.
func TestKeywordsAndNames(t *testing.T) {
	for _, word := range keywords[1:] {
		for _, x := range []struct {
			s  string
			at int
		}{
			{"pick 0 *;", 7}, {"put 1 *;", 6}, {"hand 0 *;", 7}, {"when * cup { home 1; }", 5}, {"when belt * { home 1; }", 10},
		} {
			checkFirst(t, "a keyword where a name is asked for", strings.Replace(x.s, "*", word, 1), x.at, false)
			for _, name := range []string{strings.ToUpper(word), strings.ToUpper(word[:1]) + word[1:], word + "1", word + "_", word + "s", "x" + word, word[1:] + "x"} {
				checkFirst(t, "a name that is like a keyword", strings.Replace(x.s, "*", name, 1), x.at, true)
			}
		}
		checkParse(t, "a keyword alone", word, "", ended(len(word)))
		checkParse(t, "a keyword with a semicolon", word+";", "", syntax(len(word)))
		checkParse(t, "a keyword twice", word+" "+word+"; home 1;", fmt.Sprintf("%d:home 1;", 2*len(word)+3), syntax(len(word)+1))
	}
	for _, s := range []string{"cup 0;", "Home 0;", "HOME 0;", "home1 0;", "homes 0;", "h 0;", "hom 0;", "go_ 1 (0, 0, 0);", "goto 0 (0, 0, 0);", "whenever a b;", "arm 0;"} {
		checkParse(t, "a name where a keyword is asked for", s, "", syntax(0))
		checkParse(t, "a name where a keyword is asked for", "when a b { "+s+" home 0; } home 1;", fmt.Sprintf("0:when a b { %d:home 0; } %d:home 1;", len(s)+12, len(s)+22), syntax(11))
	}
}

// checkFirst checks whether a text has a fault, and the offset of the first one.
func checkFirst(t *testing.T, what, s string, at int, ok bool) {
	t.Helper()
	got := checkText(t, what, s)
	if ok && len(got.faults) > 0 || !ok && (len(got.faults) == 0 || got.faults[0] != syntax(at)) {
		t.Errorf("%s: Parse(%q) = [%s], %v, want the offset %d, or no fault: %v", what, s, describe(got.l), got.faults, at, ok)
	}
}

// P11.1 (K1): names of 1 to 30 bytes.
func TestLengthsOfNames(t *testing.T) {
	for n := 1; n <= 30; n++ {
		for _, name := range []string{strings.Repeat("x", n), "A" + strings.Repeat("_", n-1), "z" + strings.Repeat("9", n-1)} {
			checkFirst(t, "pick", "pick 0 "+name+";", 7, n <= 12)
			checkFirst(t, "put", "put 1 "+name+";", 6, n <= 12)
			checkFirst(t, "hand", "hand 1 "+name+";", 7, n <= 12)
			checkFirst(t, "when", "when "+name+" a { }", 5, n <= 12)
			checkFirst(t, "when", "when a "+name+" { }", 7, n <= 12)
		}
	}
	checkParse(t, "12 and 13 bytes", "pick 0 abcdefghijkl; pick 0 abcdefghijklm; put 1 abcdefghijkl;", "0:pick 0 abcdefghijkl; 43:put 1 abcdefghijkl;", syntax(28))
}

// P11.1 (K1): arms.
func TestArms(t *testing.T) {
	for _, arm := range []string{"0", "1", "2", "-1", "9", "10", "11", "100", "-10", "999999999", "a", "go", "x0", "(", ")", "{", ";", ",", "}"} {
		for _, x := range []string{"go * (1, 2, 3);", "home *;", "pick * cup;", "put * belt;", "hand * belt;"} {
			checkFirst(t, "an arm", strings.Replace(x, "*", arm, 1), strings.Index(x, "*"), arm == "0" || arm == "1")
		}
	}
	for _, arm := range []string{"-0", "00", "01", "+1", "0x", "1."} {
		got := checkText(t, "no arm", "home "+arm+";")
		if len(got.faults) != 1 || got.faults[0].Err != api.ErrToken {
			t.Errorf("Parse of an arm %s reports %v", arm, got.faults)
		}
	}
	checkParse(t, "no arm", "go (1, 2, 3);", "", syntax(3))
	checkParse(t, "two arms", "go 0 1 (1, 2, 3);", "", syntax(5))
	checkParse(t, "an arm where there is none", "both 0 (1, 2, 3) (4, 5, 6);", "", syntax(5))
}

// P11.1 (K1): triples.
func TestTriples(t *testing.T) {
	for _, x := range []struct {
		triple string
		at     int // of the fault
	}{
		{"(1, 2)", 5}, {"(1, 2, 3, 4)", 8}, {"(1)", 2}, {"()", 1}, {"1, 2, 3)", 0}, {"(1 2 3)", 3}, {"(1, 2 3)", 6}, {"(1 , , 2)", 5},
		{"(, 1, 2)", 1}, {"(1, 2, )", 7}, {"(1, 2, 3,)", 8}, {"((1, 2, 3))", 1}, {"(1, 2, a)", 7}, {"(a, 2, 3)", 1}, {"(1, go, 3)", 4}, {"{1, 2, 3}", 0}, {"(1; 2; 3)", 2},
		{"(1, 2, 3}", 8}, {"(1, 2, (3))", 7}, {"(1-2-3)", 2},
	} {
		for _, s := range []string{"go 0 *;", "go 1 *; home 0;", "both * (4, 5, 6);", "both (4, 5, 6) *;", "both * *; home 1;"} {
			checkFirst(t, "not a triple", strings.ReplaceAll(s, "*", x.triple), strings.Index(s, "*")+x.at, false)
		}
	}
	checkParse(t, "no triple", "go 0;", "", syntax(4))
	checkParse(t, "an open triple", "go 0 (1, 2, 3; home 1;", "15:home 1;", syntax(13))
	checkParse(t, "an open triple in front of another one", "both (1, 2, 3 (4, 5, 6); home 1;", "25:home 1;", syntax(14))
	checkParse(t, "two triples", "go 0 (1, 2, 3) (4, 5, 6);", "", syntax(15))
	checkParse(t, "one triple", "both (1, 2, 3);", "", syntax(14))
	checkParse(t, "three triples", "both (1, 2, 3) (4, 5, 6) (7, 8, 9);", "", syntax(25))
	checkParse(t, "a comma between triples", "both (1, 2, 3), (4, 5, 6);", "", syntax(14))
	for _, n := range []string{"0", "-1", "999999999", "-999999999"} {
		checkParse(t, "numbers", fmt.Sprintf("go 1(%s,%s,%s);", n, n, n), fmt.Sprintf("0:go 1 (%s, %s, %s);", n, n, n))
	}
}

// P11.1 (K1): texts that end at each position of each kind, alone, behind a statement and within Whens, with a blank or a comment at the end.
func TestEndsAtEachPosition(t *testing.T) {
	for _, kind := range kinds {
		tokens := strings.Fields(kind)
		for n := 1; n < len(tokens); n++ {
			begin := strings.Join(tokens[:n], " ")
			for _, tail := range []string{"", " ", "\n", "# more", " #;", "\t#}\n"} {
				fault := ended(len(begin) + len(tail))
				checkParse(t, "the end", begin+tail, "", fault)
				fault.At += 8
				checkParse(t, "the end behind a statement", "home 0; "+begin+tail, "0:home 0;", fault)
				fault.At += 11
				checkParse(t, "the end within a When", "home 0; when a b { "+begin+tail, "0:home 0;", fault)
				fault.At += 19
				checkParse(t, "the end within two Whens", "home 0; when a b { home 1; when c d { "+begin+tail, "0:home 0;", fault)
			}
		}
	}
	checkParse(t, "the end of a text with an earlier fault", "go; home", "", syntax(2), ended(8))
	checkParse(t, "the end behind a token that cannot occur", "home x", "", syntax(5))
	checkParse(t, "the end within a When behind a token that cannot occur", "when a b { home x", "", syntax(16), ended(17))
	checkParse(t, "the end within a When behind a semicolon", "when a b { home 0;", "", ended(18))
	checkParse(t, "the end behind complete statements", "when a b { home 0; } wait 1;", "0:when a b { 11:home 0; } 21:wait 1;")
}

// P11.1 (K1): faults at the last token.
func TestFaultAtLastToken(t *testing.T) {
	for s, at := range map[string]int{
		"home 0; )": 8, "home 0; }": 8, "home 0; ;": 8, "home 0; x": 8, "home 0; 5": 8, "home 0; go 0;": 12, "home 0; pick 0 pick": 15, "home 0; wait x": 13,
		"home 0; both (1, 2, 3) (4, 5, 6)}": 32, "home 0; when a b;": 16, "home 0; when a b }": 17,
	} {
		got := checkText(t, "a fault at the last token", s)
		if describe(got.l) != "0:home 0;" || got.faults[0] != syntax(at) || got.faults[len(got.faults)-1] != syntax(at) {
			t.Errorf("Parse(%q) = [%s], %v, want a fault at %d", s, describe(got.l), got.faults, at)
		}
	}
	checkParse(t, "a closing bracket at the end of a statement and of the text", "home 0 }", "", syntax(7), syntax(7))
}

// P11.1 (K1): closing brackets that close no When.
func TestClosingBrackets(t *testing.T) {
	checkParse(t, "alone", "}", "", syntax(0))
	checkParse(t, "at the beginning", "} home 0;", "2:home 0;", syntax(0))
	checkParse(t, "behind a statement", "home 0; }", "0:home 0;", syntax(8))
	checkParse(t, "between statements", "home 0; } home 1;", "0:home 0; 10:home 1;", syntax(8))
	checkParse(t, "behind a When", "when a b { home 0; } } home 1;", "0:when a b { 11:home 0; } 23:home 1;", syntax(21))
	checkParse(t, "several", "}}} home 0; } }} wait 1; }", "4:home 0; 17:wait 1;", syntax(0), syntax(1), syntax(2), syntax(12), syntax(14), syntax(15), syntax(25))
	checkParse(t, "with a semicolon", "}; home 0;", "3:home 0;", syntax(0), syntax(1))
	checkParse(t, "a pair of brackets", "{ } home 0;", "4:home 0;", syntax(0), syntax(2))
	checkParse(t, "within a statement", "go 0 } (1, 2, 3); home 0;", "18:home 0;", syntax(5), syntax(5), syntax(7))
	checkParse(t, "two within a statement", "go 0 }} home 0;", "8:home 0;", syntax(5), syntax(5), syntax(6))
}

// P11.1 (K1): Whens without statements, and without one of their brackets.
func TestWhens(t *testing.T) {
	checkParse(t, "no statements", "when a b {} home 0;", "0:when a b { } 12:home 0;")
	checkParse(t, "two without statements", "when a b {} when a b {}", "0:when a b { } 12:when a b { }")
	checkParse(t, "nested ones without statements", "when a b { when c d { } when e f { } }", "0:when a b { 11:when c d { } 24:when e f { } }")
	checkParse(t, "no opening bracket", "when a b home 0; home 1; }", "17:home 1;", syntax(9), syntax(25))
	checkParse(t, "no opening bracket and no statements", "when a b } home 0;", "11:home 0;", syntax(9), syntax(9))
	checkParse(t, "a semicolon instead", "when a b; home 0;", "10:home 0;", syntax(8))
	checkParse(t, "another opening bracket", "when a b ( home 0; home 1; }", "19:home 1;", syntax(9), syntax(27))
	checkParse(t, "two opening brackets", "when a b {{ home 0; home 1; } }", "0:when a b { 20:home 1; }", syntax(10), syntax(30))
	checkParse(t, "no closing bracket", "wait 3; when a b { home 0; home 1;", "0:wait 3;", ended(34))
	checkParse(t, "no closing bracket of a nested one", "wait 3; when a b { when c d { home 0; } home 1;", "0:wait 3;", ended(47))
	checkParse(t, "no closing bracket of two", "wait 3; when a b { when c d { home 0; home 1; ", "0:wait 3;", ended(46))
	checkParse(t, "another closing bracket", "when a b { home 0; )", "", syntax(19), ended(20))
	checkParse(t, "a semicolon behind", "when a b { home 0; }; home 1;", "0:when a b { 11:home 0; } 22:home 1;", syntax(20))
	checkParse(t, "one name", "when a { home 0; home 1; } wait 1;", "17:home 1; 27:wait 1;", syntax(7), syntax(25))
	checkParse(t, "three names", "when a b c { home 0; home 1; } wait 1;", "21:home 1; 31:wait 1;", syntax(9), syntax(29))
	checkParse(t, "no names", "when { home 0; } wait 1;", "17:wait 1;", syntax(5), syntax(15))
	checkParse(t, "a fault in front of its bracket, within another one", "when a b { when c { home 0; home 1; } wait 1; } wait 2;", "0:when a b { 28:home 1; } 38:wait 1; 48:wait 2;", syntax(18), syntax(46))
}

// P11.1 (K1): Whens nested in up to ten others.
func TestNesting(t *testing.T) {
	for n := 1; n <= 10; n++ {
		open, closed := strings.Repeat("when a b { ", n), strings.Repeat("} ", n)
		for _, inner := range []string{"", "home 0; ", "home 0; home 1; ", "go; ", "home ", "when c d { } "} {
			got := checkText(t, "nested Whens", open+inner+closed+"wait 5;")
			if n <= 4 && (inner == "" || inner == "home 0; ") && len(got.faults) > 0 {
				t.Errorf("%d nested Whens: faults %v", n, got.faults)
			}
		}
		checkText(t, "nested Whens that are open", open)
		checkText(t, "nested Whens with too few brackets", open+closed[2:])
		checkText(t, "nested Whens with too many brackets", open+"home 0; }"+closed)
	}
	four := "when a b { when c d { when e f { when g h { "
	in := "0:when a b { 11:when c d { 22:when e f { 33:when g h { "
	checkParse(t, "four", four+"home 0; } } } } home 1;", in+"44:home 0; } } } } 60:home 1;")
	checkParse(t, "five", four+"when i j { home 0; home 1; } } } } } home 0;", in+"63:home 1; } } } } 81:home 0;", big(44), syntax(79))
	checkParse(t, "five, the last one empty", four+"when i j { } } } } } home 0;", in+"} } } } 65:home 0;", big(44), syntax(63))
	checkParse(t, "five, the last one with a fault", four+"when go; home 0; } } } } home 1;", in+"53:home 0; } } } } 69:home 1;", big(44))
	checkParse(t, "five, the last word of the text", four+"when", "", big(44), ended(48))
	checkParse(t, "two behind each other in four", four+"when i j; when k l; home 0; } } } }", in+"64:home 0; } } } }", big(44), big(54))
	checkParse(t, "a fifth one behind the fourth", four+"home 0; } when i j { home 1; } } } }", in+"44:home 0; } 54:when i j { 65:home 1; } } } }")
	checkParse(t, "a fifth one in one that is not complete", "when a; "+four+"home 1; } } } }", "8:when a b { 19:when c d { 30:when e f { 41:when g h { 52:home 1; } } } }", syntax(6))
}

// P11.1 (K1): what is skipped behind a fault within a nested statement.
func TestRecovery(t *testing.T) {
	for _, x := range []struct {
		what, s, want string
		faults        []api.Diagnostic
	}{
		{"up to a semicolon", "when a b { go x y; home 0; } home 1;", "0:when a b { 19:home 0; } 29:home 1;", []api.Diagnostic{syntax(14)}},
		{"up to a closing bracket", "when a b { go x y } home 1;", "0:when a b { } 20:home 1;", []api.Diagnostic{syntax(14)}},
		{"a semicolon itself", "when a b { go ; home 0; } home 1;", "0:when a b { 16:home 0; } 26:home 1;", []api.Diagnostic{syntax(14)}},
		{"a closing bracket itself", "when a b { go } home 1;", "0:when a b { } 16:home 1;", []api.Diagnostic{syntax(14)}},
		{"a semicolon where a statement begins", "when a b { ; home 0; } ; home 1;", "0:when a b { 13:home 0; } 25:home 1;", []api.Diagnostic{syntax(11), syntax(23)}},
		{"a keyword", "when a b { go 0 home 0; wait 1; }", "0:when a b { 24:wait 1; }", []api.Diagnostic{syntax(16)}},
		{"an opening bracket", "when a b { go 0 { home 0; wait 1; } wait 2; }", "0:when a b { 26:wait 1; } 36:wait 2;", []api.Diagnostic{syntax(16), syntax(44)}},
		{"a When", "home when a b { home 0; home 1; }", "24:home 1;", []api.Diagnostic{syntax(5), syntax(32)}},
		{"the last one", "when a b { home 0; home 1; go x }", "0:when a b { 11:home 0; 19:home 1; }", []api.Diagnostic{syntax(30)}},
		{"a closing bracket in front of a semicolon", "when a b { go x } ; home 0;", "0:when a b { } 20:home 0;", []api.Diagnostic{syntax(14), syntax(18)}},
		{"two levels deep", "when a b { when c d { go x } home 0; } home 1;", "0:when a b { 11:when c d { } 29:home 0; } 39:home 1;", []api.Diagnostic{syntax(25)}},
		{"only faults", "when a b { x; y; ; 5; }", "0:when a b { }", []api.Diagnostic{syntax(11), syntax(14), syntax(17), syntax(19)}},
		{"on each level", "x; when a b { y; when c d { z; } ); } 5;", "3:when a b { 17:when c d { } }", []api.Diagnostic{syntax(0), syntax(14), syntax(28), syntax(33), syntax(38)}},
		{"a fault of its own behind its statements", "wait 1; when a b { home 0; x; home 1; ", "0:wait 1;", []api.Diagnostic{syntax(27), ended(38)}},
		{"all tokens", "home 0; x y z ( ) , { when", "0:home 0;", []api.Diagnostic{syntax(8)}},
	} {
		checkParse(t, x.what, x.s, x.want, x.faults...)
	}
}

// P11.1 (K1): all texts of up to 6 tokens, and of up to 5 larger pieces.
func TestAllShortTexts(t *testing.T) {
	kinds, faults := map[int]int{}, map[api.Diagnostic]int{}
	check := func(s string) {
		got := checkText(t, "a short text", s)
		for _, n := range flatten(got.l, 0) {
			kinds[n.Kind]++
		}
		for _, f := range got.faults {
			faults[api.Diagnostic{Err: f.Err}]++
		}
	}
	sequences([]string{"home", "0", ";", "when", "a", "{", "}"}, 6, check)
	sequences([]string{"home 0;", "when a b {", "}", ";", "go 1", "wait"}, 5, check)
	sequences([]string{"when a b { when c d {", "when a b {", "}", "} }", "put 1 x;", "both"}, 6, check)
	if kinds[api.When] < 1000 || kinds[api.Home] < 1000 || faults[ended(0)] < 1000 || faults[syntax(0)] < 1000 || faults[big(0)] < 1000 {
		t.Errorf("statements of the kinds %v, faults %v", kinds, faults)
	}
}

// P11.1 (K1), P11.5: random texts with few and with many faults, and random bytes.
func TestRandomTexts(t *testing.T) {
	r := rand.New(rand.NewSource(11))
	faults, full, deep := map[int]int{}, 0, 0
	for range 6000 {
		got := checkText(t, "a random text", drawText(r))
		faults[len(got.faults)]++
		for _, n := range flatten(got.l, 0) {
			if n.depth == 4 {
				deep++
			}
		}
		if len(flatten(got.l, 0)) > 50 {
			full++
		}
	}
	if faults[0] < 50 || faults[1] < 300 || faults[2] < 300 || faults[20] < 50 || full < 50 || deep < 50 {
		t.Errorf("numbers of faults %v, %d long lists, %d deep statements", faults, full, deep)
	}
	for range 10000 {
		s := make([]byte, r.Intn(30))
		for i := range s {
			s[i] = "aghomewhn01{}{};;(,) #\n\x00-"[r.Intn(25)]
		}
		checkText(t, "random bytes", string(s))
	}
}

// positions is a text of n patterns, which are taken in turn.
func positions(n int, pattern ...string) string {
	var text strings.Builder
	for i := range n {
		text.WriteString(pattern[i%len(pattern)] + " ")
	}
	return text.String()
}

// P11.1 (K1): 63, 64, 65 and more statements.
func TestNumberOfStatements(t *testing.T) {
	for n := 60; n <= 70; n++ {
		text := positions(n, "home 0;")
		got := checkText(t, "statements", text)
		wantFaults := []api.Diagnostic{}
		if n > 64 {
			wantFaults = append(wantFaults, big(64*8))
		}
		if len(got.l) != min(n, 64) || !slices.Equal(got.faults, wantFaults) {
			t.Errorf("%d statements: %d statements and %v", n, len(got.l), got.faults)
		}
		checkText(t, "different statements", positions(n, "home 0;", "wait 5;", "pick 0 a;", "go 1 (1, 2, 3);"))
		checkText(t, "malformed ones among them", positions(n, "home 0;", "wait 5;", "pick 0 a;", "go 1 (1, 2, 3);", "go 1;", "put 1 a;"))
		checkText(t, "Whens", positions(n, "when a b { }"))
		checkText(t, "Whens with statements", positions(n/3, "when a b { home 0; home 1; }")+positions(n%3, "home 0;"))
		checkText(t, "closing brackets among them", positions(10, "}")+positions(n, "home 0;")+"}")
		checkText(t, "faults without a position", positions(5, "home 0 }")+positions(n-5, "home 1;"))
		checkText(t, "one large When", "when a b { "+positions(n-1, "home 0;")+"} ")
		checkText(t, "one large When that is open", "when a b { "+positions(n-1, "home 0;"))
		checkText(t, "two large Whens", "when a b { "+positions(20, "home 0;")+"} when c d { "+positions(n-22, "home 0;")+"} ")
		checkText(t, "nested Whens", "when a b { when c d { when e f { when g h { "+positions(n-4, "home 0;")+"} } } } ")
		checkText(t, "a When at the end", positions(n-1, "home 0;")+"when a b { }")
		checkText(t, "a When with a statement at the end", positions(n-2, "home 0;")+"when a b { home 1; }")
	}
	all := positions(64, "home 0;")
	for _, tail := range []string{"go", ";", "x", ")", "{", "when a b { }", "when", "home 0", "5;", "home 0; home 0;", "; ; ; }"} {
		got := checkText(t, "a 65th position", all+tail)
		if len(got.l) != 64 || !slices.Equal(got.faults, []api.Diagnostic{big(512)}) {
			t.Errorf("64 statements and %q: %d statements and %v", tail, len(got.l), got.faults)
		}
	}
	got := checkText(t, "closing brackets behind 64 statements", all+"} }")
	if len(got.l) != 64 || !slices.Equal(got.faults, []api.Diagnostic{syntax(512), syntax(514)}) {
		t.Errorf("64 statements and two closing brackets: %d statements and %v", len(got.l), got.faults)
	}
	got = checkText(t, "a fifth When at the 65th position", positions(60, "home 0;")+"when a b { when c d { when e f { when g h { when i j { } } } } }")
	if len(got.l) != 60 || !slices.Equal(got.faults, []api.Diagnostic{big(60*8 + 44)}) {
		t.Errorf("a fifth When at the 65th position: %d statements and %v", len(got.l), got.faults)
	}
	got = checkText(t, "a fifth When at the 64th position", positions(59, "home 0;")+"when a b { when c d { when e f { when g h { when i j; } } } }")
	if len(got.l) != 60 || !slices.Equal(got.faults, []api.Diagnostic{big(59*8 + 44)}) {
		t.Errorf("a fifth When at the 64th position: %d statements and %v", len(got.l), got.faults)
	}
	got = checkText(t, "a 65th position in a When", "home 1; when a b { "+positions(63, "home 0;")+"}")
	if describe(got.l) != "0:home 1;" || !slices.Equal(got.faults, []api.Diagnostic{big(19 + 62*8)}) {
		t.Errorf("a 65th position in a When: %s and %v", describe(got.l), got.faults)
	}
	got = checkText(t, "64 positions, many malformed", positions(64, "home 0;", "go;", "home 1;", "home 0;")+"home 1;")
	if len(got.l) != 48 || len(got.faults) != 17 || got.faults[16].Err != api.ErrBig {
		t.Errorf("64 positions, many malformed: %d statements and %v", len(got.l), got.faults)
	}
}

// P11.1 (K1): 19, 20 and 21 faults.
func TestNumberOfFaults(t *testing.T) {
	for _, fault := range []string{"go;", "x;", ";", "}", "home 2;", "pick 0 pick;", "}", "go 0 x;"} {
		for n := 18; n <= 22; n++ {
			faults := positions(n, fault)
			for _, s := range []string{
				faults, faults + "home 1;", "home 0; " + faults, "home 0; " + faults + "home 1;", "home 0; when a b { " + faults + "} home 1;",
				"home 0; when a b { home 1; " + faults + "home 1; } home 1;", faults + "home 0", faults + "when a b { ", faults + "}",
			} {
				got := checkText(t, "many faults", s)
				if n >= 20 && len(got.faults) != 20 || n < 20 && len(got.faults) < n {
					t.Errorf("%d faults %q: %d are reported", n, fault, len(got.faults))
				}
			}
			got := checkText(t, "faults between statements", "home 0; "+faults+"home 1;")
			if len(got.l) != 2 && n < 20 || len(got.l) != 1 && n >= 20 {
				t.Errorf("%d faults %q between two statements: %s", n, fault, describe(got.l))
			}
		}
	}
	nineteen := positions(19, "go;")
	checkLast := func(tail, want string, faults ...api.Diagnostic) {
		t.Helper()
		got := checkText(t, "19 faults and more", nineteen+tail)
		if describe(got.l) != want || !slices.Equal(got.faults[19:], faults) {
			t.Errorf("19 faults and %q: [%s], %v", tail, describe(got.l), got.faults)
		}
	}
	checkLast("", "")
	checkLast("home 0;", "76:home 0;")
	checkLast("go; home 0;", "", syntax(78))
	checkLast("home 0; go; home 1;", "76:home 0;", syntax(86))
	checkLast("} home 0;", "", syntax(76))
	checkLast("go } home 0;", "", syntax(79))
	checkLast("when a b { home 0; } home 1;", "76:when a b { 87:home 0; } 97:home 1;")
	checkLast("when a b { home 0; go } home 1;", "", syntax(98))
	checkLast("home 1; when a b { home 0; go } home 1;", "76:home 1;", syntax(106))
	checkLast("home 1; when a b { home 0; go; } home 1;", "76:home 1;", syntax(105))
	checkLast("home 0", "", ended(82))
	checkLast("when a b { x", "", syntax(87))
	checkLast("when a b {", "", ended(86))
	checkLast("when a b { when c d { when e f { when g h { when i j; } } } } home 0;", "", big(120))
}

// statements are those of a text without faults.
func statements(t *testing.T, s string) []api.Stmt {
	t.Helper()
	got := parse(t, "a text without faults", s)
	if len(got.faults) > 0 {
		t.Fatalf("Parse(%s) reports %v", brief(s), got.faults)
	}
	return got.l
}

// endsInComment tells whether a text that the lexer accepts ends inside a comment.
func endsInComment(s string) bool {
	last := s[strings.LastIndexByte(s, '\n')+1:]
	return strings.Contains(last, "#")
}

// shifted are statements that begin further back in a text.
func shifted(l []api.Stmt, by int) []api.Stmt {
	l = exact(l)
	for i := range l {
		l[i].At += by
		l[i].Kids = shifted(l[i].Kids, by)
	}
	return l
}

// P11.3: two texts without faults, joined.
func TestJoinedTexts(t *testing.T) {
	r := rand.New(rand.NewSource(113))
	most := 0
	for range 1500 {
		a := textOf(drawStmts(r, 32, 0), "")
		b := textOf(drawStmts(r, 32, 0), "")
		switch r.Intn(4) {
		case 0:
			a = spaced(r, tokensOf(a))
		case 1:
			a = strings.TrimSpace(a)
		case 2:
			a, b = strings.Join(strings.Fields(a), " "), spaced(r, tokensOf(b))
		}
		if endsInComment(a) {
			t.Fatalf("%q ends in a comment", a)
		}
		l, m := statements(t, a), statements(t, b)
		most = max(most, len(flatten(l, 0))+len(flatten(m, 0)))
		checkAnswer(t, "joined texts", a+b, answer{l: append(exact(l), shifted(m, len(a))...)})
	}
	if most < 60 {
		t.Errorf("at most %d statements", most)
	}
	checkParse(t, "a comment that is open", "home 0; # a"+"home 1;", "0:home 0;")
}

// P11.3: joined texts of more than 64 statements in all: the first 64, and one fault.
func TestJoinedLongTexts(t *testing.T) {
	r := rand.New(rand.NewSource(1133))
	long := 0
	for range 1000 {
		var parts [2][]api.Stmt
		for i := range parts {
			for range r.Intn(45) {
				kind := 1 + r.Intn(8)
				parts[i] = append(parts[i], drawStmt(r, kind))
			}
		}
		text := textOf(parts[0], "") + textOf(parts[1], "")
		all := slices.Concat(parts[0], parts[1])
		got := checkText(t, "joined texts", text)
		if !areEqual(got.l, all[:min(len(all), 64)]) {
			t.Errorf("%d and %d statements: %s", len(parts[0]), len(parts[1]), describe(got.l))
		}
		if len(all) <= 64 {
			if len(got.faults) > 0 {
				t.Errorf("%d and %d statements: %v", len(parts[0]), len(parts[1]), got.faults)
			}
			continue
		}
		long++
		if at := len(textOf(all[:64], "")); !slices.Equal(got.faults, []api.Diagnostic{big(at)}) {
			t.Errorf("%d and %d statements: %v, want an error at %d", len(parts[0]), len(parts[1]), got.faults, at)
		}
	}
	if long < 100 {
		t.Errorf("only %d long texts", long)
	}
}

// P11.3: joined texts with faults.
func TestJoinedFaultyTexts(t *testing.T) {
	r := rand.New(rand.NewSource(1132))
	for range 1000 {
		checkText(t, "joined texts", drawText(r)+drawText(r))
		a, b := positions(1+r.Intn(9), "home 0;", "go;", "wait 5;", "when a b { x; }"), drawText(r)
		one, other, both := parse(t, "the first text", a), parse(t, "the second text", b), parse(t, "joined texts", a+b)
		if len(one.faults)+len(other.faults) >= 20 || len(both.faults) > 0 && both.faults[len(both.faults)-1].Err == api.ErrBig || len(other.faults) > 0 && other.faults[len(other.faults)-1].Err == api.ErrBig {
			continue
		}
		faults := slices.Clone(one.faults)
		for _, f := range other.faults {
			faults = append(faults, api.Diagnostic{Err: f.Err, At: f.At + len(a)})
		}
		if !areSame(both.l, append(exact(one.l), shifted(other.l, len(a))...)) || !slices.Equal(both.faults, faults) {
			t.Errorf("Parse(%q + %q) = [%s], %v", a, b, describe(both.l), both.faults)
		}
	}
}

// P11.3: blanks and comments between tokens affect offsets only.
func TestBlanksAndComments(t *testing.T) {
	r := rand.New(rand.NewSource(1134))
	faulty := 0
	for range 1500 {
		tokens := tokensOf(drawText(r))
		one, other := spaced(r, tokens), drawGap(r)+spaced(r, tokens)
		if r.Intn(2) == 0 {
			other = strings.TrimSpace(other) + "# comment"
		}
		a, b := parse(t, "a text", one), parse(t, "the same text with other gaps", other)
		if !areEqual(a.l, b.l) || !slices.Equal(indices(one, a.faults), indices(other, b.faults)) {
			t.Errorf("Parse(%q) = [%s], %v, but Parse(%q) = [%s], %v", one, describe(a.l), a.faults, other, describe(b.l), b.faults)
		}
		if len(a.faults) > 0 {
			faulty++
		}
	}
	if faulty < 500 || faulty > 1490 {
		t.Errorf("%d of 1500 texts have faults", faulty)
	}
	checkParse(t, "comments everywhere", "#\ngo#\n1#\n(#\n0#\n,#\n-3#\n,#\n4#\n)#\n;#", "2:go 1 (0, -3, 4);")
	checkParse(t, "no blanks", "go 1(0,-3,4);when a b{home 0;}both(1,2,3)(4,5,6);", "0:go 1 (0, -3, 4); 13:when a b { 22:home 0; } 30:both (1, 2, 3) (4, 5, 6);")
	checkParse(t, "a negative number behind a word", "wait-5;", "0:wait -5;")
	checkParse(t, "line feeds within a statement", "pick\n0\ncup\n;", "0:pick 0 cup;")
}

// indices are faults with the indices of their tokens instead of their offsets.
func indices(s string, faults []api.Diagnostic) []api.Diagnostic {
	var l []api.Diagnostic
	for _, f := range faults {
		i := 0
		for _, p := range piecesOf(s) {
			if p.at < f.At {
				i++
			}
		}
		l = append(l, api.Diagnostic{Err: f.Err, At: i})
	}
	return l
}

// P11.4: a malformed statement between well-formed ones, also within a When, causes exactly one fault.
func TestMalformedStatement(t *testing.T) {
	r := rand.New(rand.NewSource(114))
	words := []string{"go", "home", "pick", "put", "hand", "wait", "when", "both", "cup", "abcdefghijklm", "0", "1", "2", "-1", "(", ")", ","}
	checked, within := 0, 0
	for range 5000 {
		var tokens []string
		for range r.Intn(6) {
			tokens = append(tokens, words[r.Intn(len(words))])
		}
		if r.Intn(2) == 0 { // nearly well-formed
			tokens = tokensOf(textOf([]api.Stmt{drawStmt(r, []int{1, 2, 3, 4, 5, 6, 8}[r.Intn(7)])}, ""))
			tokens = tokens[:len(tokens)-1]
			tokens[r.Intn(len(tokens))] = words[r.Intn(len(words))]
		}
		malformed := strings.Join(append(tokens, ";"), " ")
		if len(answerTo(malformed).faults) == 0 {
			continue
		}
		l := drawStmts(r, 63, 0)
		lines := strings.SplitAfter(textOf(l, ""), "\n")
		i := r.Intn(len(lines))
		before, after := strings.Join(lines[:i], ""), strings.Join(lines[i:], "")
		got := checkText(t, "a malformed statement", before+malformed+"\n"+after)
		if len(got.faults) != 1 || !areEqual(got.l, l) {
			t.Errorf("Parse of %q between statements = [%s], %v", malformed, describe(got.l), got.faults)
		}
		f := got.faults[0]
		nestedTooDeeply := strings.HasPrefix(malformed, "when") && f == big(len(before))
		if f.Err != api.ErrSyntax && !nestedTooDeeply || f.At < len(before) || f.At >= len(before)+len(malformed) {
			t.Errorf("Parse of %q at %d reports %v", malformed, len(before), got.faults)
		}
		checked++
		if strings.HasPrefix(after, "  ") {
			within++
		}
	}
	if checked < 3000 || within < 500 {
		t.Errorf("%d malformed statements, %d within a When", checked, within)
	}
}

// P11.5: the offsets of statements and faults in a text that is written out.
func TestPositions(t *testing.T) {
	checkParse(t, "positions", "# job\n home 0;\n\twhen a # b\n b {\n pick 0 a; home 7 ; } } when c d { ; put 1 e ; }\n wait",
		"7:home 0; 16:when a b { 33:pick 0 a; } 56:when c d { 69:put 1 e; }", syntax(48), syntax(54), syntax(67), ended(86))
}

// P1: Parse answers for all kinds of bytes, sizes and depths.
func TestLargeTexts(t *testing.T) {
	for _, unit := range []string{"when a b {", "}", "{", ";", "go", "home 0;", "(", "go 0 (", "when", "x ", "1 ", "#", "\x00", "when a b { }", "home 0 }", "when a b { ; "} {
		for _, size := range []int{100, 5000, 19990, 20000, 20001, 100000} {
			s := strings.Repeat(unit, size/len(unit)+1)[:size]
			checkText(t, "a large text", s)
		}
	}
	for b := range 256 {
		checkText(t, "a byte", string([]byte{byte(b)}))
		checkText(t, "a byte within a statement", "home 0"+string([]byte{byte(b)})+";")
	}
}

// P3: results depend on the arguments alone and share no memory.
func TestIndependentResults(t *testing.T) {
	r := rand.New(rand.NewSource(3))
	for range 500 {
		s := drawText(r)
		first, second := parse(t, "first", s), parse(t, "second", s)
		if !areSame(first.l, second.l) || !slices.Equal(first.faults, second.faults) {
			t.Errorf("Parse(%q) has two results", s)
		}
		spoil(first.l)
		for i := range first.faults {
			first.faults[i] = api.Diagnostic{}
		}
		checkText(t, "behind a change of earlier results", s)
		if want := answerTo(s); !areSame(second.l, want.l) || !slices.Equal(second.faults, want.faults) {
			t.Errorf("Parse(%q): a change of one result changes another one", s)
		}
	}
	l := statements(t, "when a b { when c d { home 0; } when e f { home 1; } }")
	kids := l[0].Kids
	_ = append(kids[0].Kids, api.Stmt{Kind: api.Wait})
	_ = append(kids[:1:1], api.Stmt{Kind: api.Wait})
	if describe(l) != "0:when a b { 11:when c d { 22:home 0; } 32:when e f { 43:home 1; } }" {
		t.Errorf("lists of one result share memory: %s", describe(l))
	}
}

// spoil changes all statements of a list.
func spoil(l []api.Stmt) {
	for i := range l {
		spoil(l[i].Kids)
		l[i] = api.Stmt{Kind: 99, Part: "spoilt"}
	}
}

// P3: calls at the same time do not affect each other.
func TestConcurrentCalls(t *testing.T) {
	r := rand.New(rand.NewSource(33))
	var texts []string
	for range 50 {
		texts = append(texts, drawText(r))
	}
	var group sync.WaitGroup
	for i := range 8 {
		group.Go(func() {
			for k := range texts {
				s := texts[(k+i*7)%len(texts)]
				l, faults := parser.Parse(s)
				want := answerTo(s)
				if !areSame(l, want.l) || !slices.Equal(faults, want.faults) || !parser.Valid(l) || !parser.Equal(l, want.l) || parser.Format(l) != textOf(want.l, "") {
					t.Errorf("Parse(%q) at the same time as others = [%s], %v", s, describe(l), faults)
				}
			}
		})
	}
	group.Wait()
}

// The oracle splits texts into the tokens of the lexer.
func TestPieces(t *testing.T) {
	r := rand.New(rand.NewSource(10))
	for range 1000 {
		s := drawText(r)
		l, err, _ := lexer.Lex(s)
		if err != api.OK {
			continue
		}
		same := slices.EqualFunc(l, piecesOf(s), func(x api.Token, p piece) bool { return x.Text == p.text && x.At == p.at })
		if !same {
			t.Errorf("the tokens of %q are %v", s, piecesOf(s))
		}
	}
}
