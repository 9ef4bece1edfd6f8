package lexer_test

import (
	"math/rand"
	"slices"
	"strings"
	"sync"
	"testing"

	"ambidexter/api"
	"ambidexter/lexer"
)

// P10.1: the examples of the chapter, with all fields of the tokens.
func TestExamples(t *testing.T) {
	checkAnswer(t, "example", "go 1(-3);", answer{l: []api.Token{
		{Kind: api.Word, Text: "go", At: 0},
		{Kind: api.Number, Text: "1", At: 3},
		{Kind: api.Sign, Text: "(", At: 4},
		{Kind: api.Number, Text: "-3", At: 5},
		{Kind: api.Sign, Text: ")", At: 7},
		{Kind: api.Sign, Text: ";", At: 8},
	}})
	checkAnswer(t, "example", "a # b", answer{l: []api.Token{{Kind: api.Word, Text: "a", At: 0}}})
	checkAnswer(t, "example", "7x", answer{err: api.ErrToken, at: 0})
	checkAnswer(t, "example", "wait 007;", answer{err: api.ErrToken, at: 5})
	job := "# a job\r\nwhen belt cup {\n\tpick 0 cup; put 0 tray_2; # done\n}\nboth (0,-17 , 18)(1,2,3);"
	checkTokens(t, "a job", job, "when", "belt", "cup", "{", "pick", "0", "cup", ";", "put", "0", "tray_2", ";", "}",
		"both", "(", "0", ",", "-17", ",", "18", ")", "(", "1", ",", "2", ",", "3", ")", ";")
}

// P10.1: the kinds of bytes that the tests use: each byte is of one kind.
func TestKindsOfBytes(t *testing.T) {
	seen := map[byte]string{}
	for kind, bytes := range bytesOf {
		for _, b := range []byte(bytes) {
			if seen[b] != "" {
				t.Errorf("byte %d is of the kinds %s and %s", b, kind, seen[b])
			}
			seen[b] = kind
		}
	}
	if len(seen) != 256 {
		t.Errorf("%d bytes are of a kind, want 256", len(seen))
	}
}

// P10.1 (J1, J2): the empty string, and each byte alone.
func TestEachByteAlone(t *testing.T) {
	checkTokens(t, "the empty string", "")
	for kind, bytes := range bytesOf {
		for i := range len(bytes) {
			switch s := bytes[i : i+1]; kind {
			case "white", "comment":
				checkTokens(t, kind, s)
			case "letter", "digit", "zero", "sign":
				checkTokens(t, kind, s, s)
			default:
				checkFault(t, kind, s, 0)
			}
		}
	}
}

// surrounded tells what becomes of the bytes of one kind between two texts: texts of tokens, with * for the byte, or the offset of a fault.
type surrounded struct {
	before, kind, after string
	texts               string
	fault               int
}

// checkSurrounded checks what becomes of all bytes of a kind.
func checkSurrounded(t *testing.T, l []surrounded) {
	t.Helper()
	for _, x := range l {
		bytes := bytesOf[x.kind]
		for i := range len(bytes) {
			b := bytes[i : i+1]
			s := x.before + b + x.after
			if x.fault >= 0 {
				checkFault(t, x.kind, s, x.fault)
				continue
			}
			checkTokens(t, x.kind, s, strings.Fields(strings.ReplaceAll(x.texts, "*", b))...)
		}
	}
}

// P10.1 (J1, J2): each byte at the beginning of, within and at the end of a word.
func TestEachByteInWords(t *testing.T) {
	checkSurrounded(t, []surrounded{
		{"", "white", "ab", "ab", -1}, {"a", "white", "b", "a b", -1}, {"ab", "white", "", "ab", -1},
		{"", "comment", "ab", "", -1}, {"a", "comment", "b", "a", -1}, {"ab", "comment", "", "ab", -1},
		{"", "letter", "ab", "*ab", -1}, {"a", "letter", "b", "a*b", -1}, {"ab", "letter", "", "ab*", -1},
		{"", "digit", "ab", "", 0}, {"a", "digit", "b", "a*b", -1}, {"ab", "digit", "", "ab*", -1},
		{"", "zero", "ab", "", 0}, {"a", "zero", "b", "a*b", -1}, {"ab", "zero", "", "ab*", -1},
		{"", "underscore", "ab", "", 0}, {"a", "underscore", "b", "a*b", -1}, {"ab", "underscore", "", "ab*", -1},
		{"", "minus", "ab", "", 0}, {"a", "minus", "b", "", 1}, {"ab", "minus", "", "", 2},
		{"", "sign", "ab", "* ab", -1}, {"a", "sign", "b", "a * b", -1}, {"ab", "sign", "", "ab *", -1},
		{"", "other", "ab", "", 0}, {"a", "other", "b", "", 1}, {"ab", "other", "", "", 2},
	})
}

// P10.1 (J1, J2): each byte at the beginning of, within and at the end of a number, without and with a minus.
func TestEachByteInNumbers(t *testing.T) {
	checkSurrounded(t, []surrounded{
		{"", "white", "12", "12", -1}, {"1", "white", "2", "1 2", -1}, {"12", "white", "", "12", -1},
		{"", "comment", "12", "", -1}, {"1", "comment", "2", "1", -1}, {"12", "comment", "", "12", -1},
		{"", "letter", "12", "*12", -1}, {"1", "letter", "2", "", 0}, {"12", "letter", "", "", 0},
		{"", "digit", "12", "*12", -1}, {"1", "digit", "2", "1*2", -1}, {"12", "digit", "", "12*", -1},
		{"", "zero", "12", "", 0}, {"1", "zero", "2", "1*2", -1}, {"12", "zero", "", "12*", -1},
		{"", "underscore", "12", "", 0}, {"1", "underscore", "2", "", 0}, {"12", "underscore", "", "", 0},
		{"", "minus", "12", "*12", -1}, {"1", "minus", "2", "1 *2", -1}, {"12", "minus", "", "", 2},
		{"", "sign", "12", "* 12", -1}, {"1", "sign", "2", "1 * 2", -1}, {"12", "sign", "", "12 *", -1},
		{"", "other", "12", "", 0}, {"1", "other", "2", "", 1}, {"12", "other", "", "", 2},
	})
	checkSurrounded(t, []surrounded{
		{"", "white", "-12", "-12", -1}, {"-", "white", "12", "", 0}, {"-1", "white", "2", "-1 2", -1}, {"-12", "white", "", "-12", -1},
		{"", "comment", "-12", "", -1}, {"-", "comment", "12", "", 0}, {"-1", "comment", "2", "-1", -1}, {"-12", "comment", "", "-12", -1},
		{"", "letter", "-12", "* -12", -1}, {"-", "letter", "12", "", 0}, {"-1", "letter", "2", "", 0}, {"-12", "letter", "", "", 0},
		{"", "digit", "-12", "* -12", -1}, {"-", "digit", "12", "-*12", -1}, {"-1", "digit", "2", "-1*2", -1}, {"-12", "digit", "", "-12*", -1},
		{"", "zero", "-12", "* -12", -1}, {"-", "zero", "12", "", 0}, {"-1", "zero", "2", "-1*2", -1}, {"-12", "zero", "", "-12*", -1},
		{"", "underscore", "-12", "", 0}, {"-", "underscore", "12", "", 0}, {"-1", "underscore", "2", "", 0}, {"-12", "underscore", "", "", 0},
		{"", "minus", "-12", "", 0}, {"-", "minus", "12", "", 0}, {"-1", "minus", "2", "-1 *2", -1}, {"-12", "minus", "", "", 3},
		{"", "sign", "-12", "* -12", -1}, {"-", "sign", "12", "", 0}, {"-1", "sign", "2", "-1 * 2", -1}, {"-12", "sign", "", "-12 *", -1},
		{"", "other", "-12", "", 0}, {"-", "other", "12", "", 0}, {"-1", "other", "2", "", 2}, {"-12", "other", "", "", 3},
	})
}

// P10.1 (J1): white space and comments alone.
func TestWhiteSpaceAndCommentsAlone(t *testing.T) {
	for _, s := range []string{
		"  ", "\n\n", " \t\n\r", "\r\n", "#", "##", "#\n", "# \n", "#\n#", "#a", "# a b c", "#a\n#b\n", " # x\n\t#y\r\n  ", "#\r", "#\n\n#\n", "\n#\n",
		strings.Repeat(" \t\r\n", 4000), strings.Repeat("#x\n", 5000),
	} {
		checkTokens(t, "white space and comments", s)
	}
	small(" \t\n\r", 5, func(s string) { checkTokens(t, "white space", s) })
	small("# \r\n", 6, func(s string) {
		checkTokens(t, "white space and comments", s)
		checkTokens(t, "a word in front of white space and comments", "word"+s, "word")
	})
}

// P10.1 (J1): comments end with a line feed or with the end of the input, and hold any other bytes.
func TestComments(t *testing.T) {
	everything := make([]byte, 0, 256)
	for b := range 256 {
		if b != '\n' {
			everything = append(everything, byte(b))
		}
	}
	for _, text := range []string{
		"", " ", "b", "\r", "\rb", "b\r", "(", "(){};,", "#", "##", " # b", "-", "--1", "-0", "007", "7x", "_", "12345678901", "~", "\x00", "\xff\xfe", "é", string(everything),
	} {
		checkTokens(t, "a comment alone", "#"+text)
		checkTokens(t, "a comment up to a line feed", "#"+text+"\n")
		checkTokens(t, "a comment up to the end", "a #"+text, "a")
		checkApart(t, "a comment directly behind a word", "a", "#"+text+"\n", "b")
		checkApart(t, "a comment directly behind a number", "-1", "#"+text+"\n", "2")
		checkApart(t, "a comment directly behind a sign", ";", "#"+text+"\n", "(")
		checkApart(t, "two comments", "a", "#"+text+"\n#"+text+"\n", "b")
		checkApart(t, "two comments with blanks", "a", " #"+text+"\n  #"+text+"\n ", "b")
		checkTokens(t, "two comments, the last up to the end", "a#"+text+"\n #"+text, "a")
		checkFault(t, "a fault behind a comment", "a#"+text+"\n-", len(text)+3)
		checkFault(t, "a comment directly behind a minus", "a -#"+text+"\n1", 2)
	}
	checkTokens(t, "a carriage return does not end a comment", "a # b\rc", "a")
	checkTokens(t, "a line feed ends a comment", "a # b\nc", "a", "c")
	checkTokens(t, "a line feed ends a comment with a carriage return", "a # b\r\nc", "a", "c")
	checkTokens(t, "a line feed directly behind #", "#\n\n#\na", "a")
}

// P10.1 (J1): words.
func TestWords(t *testing.T) {
	letters := bytesOf["letter"]
	for i := range len(letters) {
		first := letters[i : i+1]
		for _, word := range []string{first, first + "9", first + "_", first + "0", first + "__0_", first + first, first + "aZ9_", first + letters, first + "0123456789", first + strings.Repeat("_", 50)} {
			checkTokens(t, "a word", word, word)
			checkTokens(t, "a word between blanks", " "+word+" ", word)
			for _, sign := range strings.Split(bytesOf["sign"], "") {
				checkTokens(t, "a sign directly behind a word", word+sign, word, sign)
				checkTokens(t, "a word directly behind a sign", sign+word, sign, word)
				checkTokens(t, "a word between signs", sign+word+sign, sign, word, sign)
			}
			checkTokens(t, "a comment directly behind a word", word+"#"+word, word)
			checkTokens(t, "a comment directly behind a word", word+"#\n"+word, word, word)
			checkTokens(t, "a number directly behind a word", word+"-1", word, "-1")
			checkFault(t, "a minus directly behind a word", word+"-", len(word))
			checkFault(t, "a minus between words", word+"-"+word, len(word))
			checkFault(t, "an underscore first", "_"+word, 0)
			checkFault(t, "an underscore first, behind a word", word+" _"+word, len(word)+1)
		}
	}
	checkFault(t, "an underscore alone", "_", 0)
	checkFault(t, "underscores alone", "___", 0)
	checkFault(t, "an underscore and a digit", "_1", 0)
	checkFault(t, "an underscore directly behind a sign", ";_", 1)
}

// P10.1 (J1, J2): numbers of each length, with each first digit.
func TestNumbers(t *testing.T) {
	for _, minus := range []string{"", "-"} {
		for first := '1'; first <= '9'; first++ {
			for n := range 12 {
				for _, more := range []string{"0", "1", "9", "5"} {
					s := minus + string(first) + strings.Repeat(more, n)
					if n < 9 {
						checkTokens(t, "at most 9 digits", s, s)
						checkTokens(t, "at most 9 digits, between signs", "("+s+")", "(", s, ")")
					} else {
						checkFault(t, "more than 9 digits", s, 0)
						checkFault(t, "more than 9 digits, between signs", "("+s+")", 1)
					}
				}
			}
		}
	}
	checkTokens(t, "nine digits", "123456789 -123456789 999999999 -999999999 100000000", "123456789", "-123456789", "999999999", "-999999999", "100000000")
	checkFault(t, "ten digits", "1 1234567890", 2)
	checkFault(t, "ten digits with a minus", "1 -1234567890", 2)
	checkFault(t, "as many digits as fit", strings.Repeat("1", 20000), 0)
}

// P10.1 (J2): zeros.
func TestZeros(t *testing.T) {
	checkTokens(t, "0", "0", "0")
	checkTokens(t, "0 between signs", "(0,0);", "(", "0", ",", "0", ")", ";")
	checkTokens(t, "0 with a comment", "0#0", "0")
	checkTokens(t, "0 with a negative number", "0-1", "0", "-1")
	for _, s := range []string{"-0", "00", "01", "-00", "-01", "000", "0000", "09", "-09", "010", "00000000", "000000000", "0000000000", "-000000000", "-0000000000", "0123456789", "012345678", "000000001"} {
		checkFault(t, "a superfluous 0", s, 0)
		checkFault(t, "a superfluous 0 behind a word", "wait "+s+";", 5)
		checkFault(t, "a superfluous 0 directly behind a sign", "0;"+s, 2)
	}
	checkFault(t, "-0 directly behind 0", "0-0", 1)
	checkFault(t, "as many zeros as fit", strings.Repeat("0", 20000), 0)
	for n := 2; n < 30; n++ {
		for last := '0'; last <= '9'; last++ {
			checkFault(t, "many zeros", strings.Repeat("0", n-1)+string(last), 0)
			checkFault(t, "many zeros with a minus", "-"+strings.Repeat("0", n-1)+string(last), 0)
		}
	}
}

// P10.1 (J2): a minus that is not directly followed by a digit.
func TestMinus(t *testing.T) {
	for _, after := range []string{"", " ", " 1", "\t1", "\n1", "\r1", "a", "a1", "_", "_1", "(", ")", "{", "}", ";", ",", "(1", "-", "-1", "--1", "#", "#\n1", "~", "\xff", "+1", ".1"} {
		checkFault(t, "a minus at the beginning", "-"+after, 0)
		checkFault(t, "a minus behind a blank", " -"+after, 1)
		checkFault(t, "a minus behind a word", "a -"+after, 2)
		checkFault(t, "a minus directly behind a word", "ab-"+after, 2)
		checkFault(t, "a minus directly behind a word with a digit", "a1-"+after, 2)
		checkFault(t, "a minus directly behind a number", "17-"+after, 2)
		checkFault(t, "a minus directly behind a negative number", "-7-"+after, 2)
		checkFault(t, "a minus directly behind a sign", ";-"+after, 1)
		checkFault(t, "a minus behind a comment", "#-\n-"+after, 3)
	}
	checkTokens(t, "a negative number directly behind a word", "a-1", "a", "-1")
	checkTokens(t, "a negative number directly behind an underscore", "a_-1", "a_", "-1")
	checkTokens(t, "negative numbers in a row", "1-2-3", "1", "-2", "-3")
	checkTokens(t, "negative numbers in a row, the first one too", "-1-2-3", "-1", "-2", "-3")
	checkFault(t, "-0 directly behind a word", "a-0", 1)
	checkFault(t, "-0 directly behind a number", "1-0", 1)
}

// P10.1 (J1, J2): numbers directly followed by something.
func TestNumbersDirectlyFollowed(t *testing.T) {
	for _, number := range []string{"0", "7", "-7", "10", "999999999", "-999999999", "-1"} {
		for i := range 26 {
			checkFault(t, "a letter", number+string(rune('a'+i)), 0)
			checkFault(t, "a letter", number+string(rune('A'+i))+" b", 0)
		}
		checkFault(t, "an underscore", number+"_", 0)
		checkFault(t, "an underscore and digits", "a "+number+"_1", 2)
		checkFault(t, "an exponent", ";"+number+"e5", 1)
		checkTokens(t, "a blank and a letter", number+" x", number, "x")
		checkTokens(t, "a comment", number+"#x", number)
		checkTokens(t, "a comment and a word", number+"#x\ny", number, "y")
		checkTokens(t, "a negative number", number+"-5", number, "-5")
		checkFault(t, "a minus", number+"-", len(number))
		checkFault(t, "a negative number that is directly followed by a letter", number+"-5x", len(number))
		checkFault(t, "a point", number+".5", len(number))
		checkFault(t, "a byte of no kind", number+"\x80", len(number))
		for _, sign := range strings.Split(bytesOf["sign"], "") {
			checkTokens(t, "a sign", number+sign, number, sign)
			checkTokens(t, "a sign and a word", number+sign+"x", number, sign, "x")
			checkTokens(t, "a sign and a number", number+sign+number, number, sign, number)
		}
	}
	for last := '0'; last <= '9'; last++ {
		checkTokens(t, "a digit", "7"+string(last), "7"+string(last))
		checkTokens(t, "a digit", "-7"+string(last), "-7"+string(last))
		checkTokens(t, "a ninth digit", "12345678"+string(last), "12345678"+string(last))
		checkFault(t, "a tenth digit", "123456789"+string(last), 0)
		checkFault(t, "a digit behind 0", "0"+string(last), 0)
	}
}

// P10.1 (J2): numbers that are faulty in two ways, and the first of several faults.
func TestSeveralFaults(t *testing.T) {
	for _, s := range []string{"007x", "-0x", "-0_", "01_", "1234567890x", "-1234567890_", "0000000000", "-0000000000x", "00-", "01-0", "7x-", "7x7x"} {
		checkFault(t, "faulty in two ways", s, 0)
		checkFault(t, "faulty in two ways, behind a word", "a "+s+" b", 2)
	}
	faults := []string{"-", "00", "-0", "01", "-01", "7x", "7_", "1234567890", "_", "~", "\xff", "+"}
	for _, first := range faults {
		for _, second := range faults {
			checkFault(t, "two faults", "a("+first+" "+second+")", 2)
			checkFault(t, "two faults", "a("+first+";"+second, 2)
			checkFault(t, "a fault in a comment, and one behind it", "a#"+first+"\n"+second, len(first)+3)
			checkFault(t, "a fault, and one in a comment", "a "+first+"#"+second, 2)
		}
	}
}

// P10.1, P10.2: offsets of tokens and faults behind white space and comments.
func TestOffsets(t *testing.T) {
	for _, gap := range []string{"", " ", "  ", "\t", "\n", "\r", "\r\n", " \t\n\r", "#\n", "# a 1 ; -\n", " #\r\n\t", "#\n#\n", "#x\n\n\n#y\n  ", "\n# 00\n", "#" + strings.Repeat("-", 1000) + "\n", strings.Repeat(" ", 1000)} {
		n := len(gap)
		checkAnswer(t, "a word", gap+"ab", answer{l: []api.Token{{Kind: api.Word, Text: "ab", At: n}}})
		checkAnswer(t, "a number", gap+"-12"+gap, answer{l: []api.Token{{Kind: api.Number, Text: "-12", At: n}}})
		checkAnswer(t, "a sign", gap+";", answer{l: []api.Token{{Kind: api.Sign, Text: ";", At: n}}})
		checkAnswer(t, "three tokens", gap+"a"+gap+"("+gap+"17", answer{l: []api.Token{
			{Kind: api.Word, Text: "a", At: n}, {Kind: api.Sign, Text: "(", At: 2*n + 1}, {Kind: api.Number, Text: "17", At: 3*n + 2},
		}})
		checkFault(t, "a fault", gap+"~", n)
		checkFault(t, "a minus", gap+"a"+gap+";"+gap+"-"+gap+"x", 3*n+2)
		checkFault(t, "a number", gap+"a"+gap+";"+gap+"00", 3*n+2)
		checkFault(t, "a number directly followed by a letter", gap+"a;"+gap+"7x", 2*n+2)
	}
}

// P10.1 (J2): strings of 19999, 20000 and 20001 bytes and more, with and without a fault.
func TestSizes(t *testing.T) {
	for _, n := range []int{19998, 19999, 20000, 20001, 20002, 30000, 100000} {
		big := answer{err: api.ErrBig}
		check := func(what, s string, want answer) {
			t.Helper()
			if len(s) != n {
				t.Fatalf("%s: %d bytes, want %d", what, len(s), n)
			}
			if n > 20000 {
				want = big
			}
			checkAnswer(t, what, s, want)
		}
		var signs []api.Token
		for at := range n {
			signs = append(signs, api.Token{Kind: api.Sign, Text: ";", At: at})
		}
		word := strings.Repeat("x", n)
		blanks, semicolons := strings.Repeat(" ", n), strings.Repeat(";", n)
		check("blanks", blanks, answer{})
		check("a comment", "#"+word[1:], answer{})
		check("a word", word, answer{l: []api.Token{{Kind: api.Word, Text: word}}})
		check("signs", semicolons, answer{l: signs})
		check("a token at the end", blanks[1:]+"y", answer{l: []api.Token{{Kind: api.Word, Text: "y", At: n - 1}}})
		check("a token at the beginning", "y"+blanks[1:], answer{l: []api.Token{{Kind: api.Word, Text: "y"}}})
		check("a fault at the beginning", "~"+blanks[1:], answer{err: api.ErrToken})
		check("a fault at the end", semicolons[1:]+"-", answer{err: api.ErrToken, at: n - 1})
		check("a fault before the end", semicolons[2:]+"7x", answer{err: api.ErrToken, at: n - 2})
		check("a long number", strings.Repeat("1", n), answer{err: api.ErrToken})
		check("faults alone", strings.Repeat("-", n), answer{err: api.ErrToken})
	}
}

// P10.1: all small strings of bytes of each kind, compared with an oracle.
func TestAllSmallStrings(t *testing.T) {
	tokens, faults := 0, 0
	small("aZ02-_ \n#;\x80", 5, func(s string) {
		want := answerTo(s)
		checkAnswer(t, "small string", s, want)
		tokens += len(want.l)
		if want.err != api.OK {
			faults++
		}
	})
	if tokens < 10000 || faults < 10000 {
		t.Errorf("only %d tokens and %d faults", tokens, faults)
	}
	small("1 0-", 8, func(s string) { checkAnswer(t, "numbers", s, answerTo(s)) })
}

// P10.1, P1: random texts and bytes, compared with an oracle.
func TestRandomTexts(t *testing.T) {
	r := rand.New(rand.NewSource(1))
	seen := map[api.Errno]int{}
	for range 20000 {
		for _, s := range []string{drawText(r, 30), drawBytes(r, 40)} {
			want := answerTo(s)
			checkAnswer(t, "random text", s, want)
			seen[want.err]++
		}
	}
	for range 50 {
		for _, s := range []string{drawText(r, 9000), drawBytes(r, 21000)} {
			checkAnswer(t, "long random text", s, answerTo(s))
		}
	}
	if seen[api.OK] < 5000 || seen[api.ErrToken] < 5000 {
		t.Errorf("answers by error: %v", seen)
	}
}

// P10.2: every token occurs in the input at its offset, offsets increase, and there are only white space and comments in between.
func TestTokensAreInTheInput(t *testing.T) {
	r := rand.New(rand.NewSource(2))
	n := 0
	check := func(s string) {
		l, err, _ := lexer.Lex(s)
		if err != api.OK {
			return
		}
		end := 0
		for _, token := range append(l, api.Token{At: len(s)}) {
			if token.At < end || token.At+len(token.Text) > len(s) {
				t.Fatalf("Lex(%s): offset %d behind a token that ends at %d", brief(s), token.At, end)
			}
			if text := s[token.At : token.At+len(token.Text)]; text != token.Text {
				t.Fatalf("Lex(%s): %q at offset %d, where the input has %q", brief(s), token.Text, token.At, text)
			}
			if gap := s[end:token.At]; gapForm.FindString(gap) != gap {
				t.Fatalf("Lex(%s): %q between tokens", brief(s), gap)
			}
			end = token.At + len(token.Text)
			n++
		}
		for i, token := range l {
			if token.Text == "" || i > 0 && token.At <= l[i-1].At {
				t.Fatalf("Lex(%s): token %d is empty or not behind the previous one", brief(s), i)
			}
		}
	}
	for range 5000 {
		check(drawText(r, 40))
		check(drawGap(r) + "a" + drawGap(r) + "(" + drawGap(r) + "-17" + drawGap(r) + "b_")
	}
	small("a1-_ \n#;", 5, check)
	if n < 50000 {
		t.Errorf("only %d tokens", n)
	}
}

// kindsAndTexts are tokens without their offsets.
func kindsAndTexts(l []api.Token) []api.Token {
	l = slices.Clone(l)
	for i := range l {
		l[i].At = 0
	}
	return l
}

// checkStable lexes the texts of the tokens of s again, separated and surrounded by white space, and reports whether s has any tokens.
func checkStable(t *testing.T, s string, white func(least int) string) bool {
	t.Helper()
	l, err, _ := lexer.Lex(s)
	var text strings.Builder
	text.WriteString(white(0))
	for i, token := range l {
		if i > 0 {
			text.WriteString(white(1))
		}
		text.WriteString(token.Text)
	}
	text.WriteString(white(0))
	again, second, at := lexer.Lex(text.String())
	if text.Len() > 20000 {
		checkAnswer(t, "too many tokens and blanks", text.String(), answer{err: api.ErrBig})
	} else if second != api.OK || at != 0 || !slices.Equal(kindsAndTexts(l), kindsAndTexts(again)) {
		t.Fatalf("Lex(%s) = [%s], %d, %d, want the tokens [%s] of %s", brief(text.String()), describe(again), second, at, describe(l), brief(s))
	}
	return err == api.OK && len(l) > 0
}

// P10.3: the texts of tokens, separated by any white space, yield the same tokens.
func TestStability(t *testing.T) {
	r := rand.New(rand.NewSource(3))
	n := 0
	check := func(s string, white func(least int) string) {
		if checkStable(t, s, white) {
			n++
		}
	}
	random := func(least int) string { return drawWhite(r, least) }
	for range 10000 {
		check(drawText(r, 40), random)
	}
	for range 20 {
		check(strings.Repeat("a(1-1", 1500+r.Intn(1500)), random)
	}
	for _, white := range []string{" ", "\t", "\n", "\r", "\r\n", " \n \t"} {
		same := func(least int) string { return strings.Repeat(white, least) }
		small("a1-_ \n#;", 4, func(s string) { check(s, same) })
		check(strings.Repeat(";", 10000), same)
		check(strings.Repeat(";", 10001), same)
	}
	if n < 10000 {
		t.Errorf("only %d texts with tokens", n)
	}
}

// checkConcatenation compares the tokens of two inputs with those of the first, a blank and the second, and reports whether both inputs have any tokens.
func checkConcatenation(t *testing.T, a, b string) bool {
	t.Helper()
	first, errA, _ := lexer.Lex(a)
	second, errB, _ := lexer.Lex(b)
	if errA != api.OK || errB != api.OK {
		return false
	}
	want := answer{l: slices.Clone(first)}
	for _, token := range second {
		token.At += len(a) + 1
		want.l = append(want.l, token)
	}
	if openForm.MatchString(a) {
		// The first line of b belongs to the comment: the promise does not hold, but J1 does.
		want = answerTo(a + " " + b)
	}
	if len(a)+1+len(b) > 20000 {
		want = answer{err: api.ErrBig}
	}
	checkAnswer(t, "concatenation", a+" "+b, want)
	return len(first) > 0 && len(second) > 0
}

// P10.4: two inputs with a blank in between.
func TestConcatenation(t *testing.T) {
	var l []string
	small("a1-_ \n#;", 3, func(s string) { l = append(l, s) })
	pairs := 0
	check := func(a, b string) {
		if checkConcatenation(t, a, b) {
			pairs++
		}
	}
	for _, a := range l {
		for _, b := range l {
			check(a, b)
		}
	}
	r := rand.New(rand.NewSource(4))
	for range 10000 {
		check(drawText(r, 20), drawText(r, 20))
		check("a"+drawGap(r), drawGap(r)+"-1;")
	}
	if pairs < 10000 {
		t.Errorf("only %d pairs of inputs with tokens", pairs)
	}
	for _, n := range []int{1, 9999, 19998, 19999, 20000} {
		for _, m := range []int{0, 1, 9999, 10000, 10001, 19998, 19999, 20000} {
			checkConcatenation(t, strings.Repeat("a", n), strings.Repeat("b", m))
			checkConcatenation(t, strings.Repeat(" ", n-1)+"1", strings.Repeat("(", m))
			checkConcatenation(t, strings.Repeat("#\n", n/2), strings.Repeat(" ", m))
		}
	}
	checkTokens(t, "a first input that ends inside a comment", "a # b c", "a")
	checkTokens(t, "two numbers", "1 2", "1", "2")
	checkTokens(t, "two words", "a 1", "a", "1")
}

// checkFirstError checks that the input up to the offset of an error lexes without one, and that no token begins there.
func checkFirstError(t *testing.T, s string) bool {
	t.Helper()
	_, err, at := lexer.Lex(s)
	if err != api.ErrToken {
		return false
	}
	if _, err, other := lexer.Lex(s[:at]); err != api.OK || other != 0 {
		t.Fatalf("Lex(%s) fails at %d, and Lex(%s) at %d, too", brief(s), at, brief(s[:at]), other)
	}
	rest := s[at:]
	if wordForm.MatchString(rest) || signForm.MatchString(rest) || numberForm.MatchString(rest) || gapForm.FindString(rest) != "" {
		t.Fatalf("Lex(%s) fails at %d, where it need not", brief(s), at)
	}
	if _, err, other := lexer.Lex(rest); err != api.ErrToken || other != 0 {
		t.Fatalf("Lex(%s) fails at %d, but Lex(%s) at %d", brief(s), at, brief(rest), other)
	}
	return true
}

// P10.5: the offset of an error is the start of an invalid token, and what comes before it has no error.
func TestFirstError(t *testing.T) {
	n := 0
	check := func(s string) {
		if checkFirstError(t, s) {
			n++
		}
	}
	small("a10-_ \n#;", 5, check)
	r := rand.New(rand.NewSource(5))
	for range 20000 {
		check(drawText(r, 40))
		check(drawBytes(r, 20))
		check("a " + drawGap(r) + pieces[r.Intn(len(pieces))] + drawText(r, 5))
	}
	check(strings.Repeat("; ", 9999) + "-;")
	check(strings.Repeat("#\n", 9999) + "1x")
	if n < 40000 {
		t.Errorf("only %d errors", n)
	}
}

// P2: results on failure and on success, for texts with an error at an offset other than 0, and for both errors at once.
func TestResults(t *testing.T) {
	for _, s := range []string{"a b c ~", "a b c 00 d", "a;-", "go 1 2x;"} {
		if l, err, at := lexer.Lex(s); l != nil || err != api.ErrToken || at == 0 {
			t.Errorf("Lex(%q) = %v, %d, %d", s, l, err, at)
		}
	}
	for _, s := range []string{strings.Repeat("a ", 10001), "~" + strings.Repeat("a", 20000), strings.Repeat("a ", 10000) + "00"} {
		if l, err, at := lexer.Lex(s); l != nil || err != api.ErrBig || at != 0 {
			t.Errorf("Lex(%s) = %v, %d, %d", brief(s), l, err, at)
		}
	}
	for _, s := range []string{"", " ", "a", "a;1", "#~"} {
		if _, err, at := lexer.Lex(s); err != api.OK || at != 0 {
			t.Errorf("Lex(%q) = %d, %d", s, err, at)
		}
	}
}

// P3: calls at the same time and changes of the results of other calls have no effect on the results of a call.
func TestCallsAreIndependent(t *testing.T) {
	r := rand.New(rand.NewSource(6))
	var texts []string
	var wanted []answer
	for range 200 {
		s := drawText(r, 60)
		texts, wanted = append(texts, s), append(wanted, answerTo(s))
	}
	var group sync.WaitGroup
	for range 8 {
		group.Go(func() {
			for i, s := range texts {
				checkAnswer(t, "concurrent call", s, wanted[i])
			}
		})
	}
	group.Wait()
	for i, s := range texts {
		first, _, _ := lexer.Lex(s)
		kept := slices.Clone(first)
		second, _, _ := lexer.Lex(s)
		for j := range second {
			second[j] = api.Token{Kind: -1, Text: "gone", At: -1}
		}
		if !slices.Equal(first, kept) {
			t.Errorf("the tokens of %s change with those of a later call", brief(s))
		}
		checkAnswer(t, "call after a change of earlier results", s, wanted[i])
	}
}
