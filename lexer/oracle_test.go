package lexer_test

import (
	"fmt"
	"math/rand"
	"regexp"
	"slices"
	"strings"
	"testing"

	"ambidexter/api"
	"ambidexter/lexer"
)

// answer is what Lex returns.
type answer struct {
	l   []api.Token
	err api.Errno
	at  int
}

// The forms of white space and comments, of tokens, and of the numbers that are valid, at the beginning of a text.
var (
	gapForm    = regexp.MustCompile(`^(?:[ \t\n\r]|#[^\n]*)*`)
	wordForm   = regexp.MustCompile(`^[A-Za-z][A-Za-z0-9_]*`)
	digitsForm = regexp.MustCompile(`^-?[0-9]+`)
	numberForm = regexp.MustCompile(`^(?:0|-?[1-9][0-9]{0,8})(?:$|[^A-Za-z0-9_])`)
	signForm   = regexp.MustCompile(`^[(){};,]`)
)

// openForm is the form of texts that end inside a comment.
var openForm = regexp.MustCompile(`#[^\n]*$`)

// answerTo is J1 and J2 with regular expressions.
func answerTo(s string) answer {
	if len(s) > 20000 {
		return answer{err: api.ErrBig}
	}
	var l []api.Token
	for at := len(gapForm.FindString(s)); at < len(s); at += len(gapForm.FindString(s[at:])) {
		rest, kind, text := s[at:], api.Word, wordForm.FindString(s[at:])
		if text == "" {
			kind, text = api.Sign, signForm.FindString(rest)
		}
		if text == "" && numberForm.MatchString(rest) {
			kind, text = api.Number, digitsForm.FindString(rest)
		}
		if text == "" {
			return answer{err: api.ErrToken, at: at}
		}
		l = append(l, api.Token{Kind: kind, Text: text, At: at})
		at += len(text)
	}
	return answer{l: l}
}

// tokensOf are tokens of a text that stand in it in this order, each of them found behind the previous one; their kinds follow from their first bytes.
func tokensOf(s string, texts ...string) []api.Token {
	var l []api.Token
	end := 0
	for _, text := range texts {
		t := api.Token{Kind: api.Sign, Text: text, At: end + strings.Index(s[end:], text)}
		switch first := text[0]; {
		case first >= 'a' && first <= 'z' || first >= 'A' && first <= 'Z':
			t.Kind = api.Word
		case first >= '0' && first <= '9' || first == '-':
			t.Kind = api.Number
		}
		l = append(l, t)
		end = t.At + len(text)
	}
	return l
}

// brief is the beginning of a long text.
func brief(s string) string {
	if len(s) > 200 {
		return fmt.Sprintf("%q.. (%d bytes)", s[:200], len(s))
	}
	return fmt.Sprintf("%q", s)
}

// describe lists tokens, the first ones of many.
func describe(l []api.Token) string {
	var text strings.Builder
	for i, token := range l {
		if i == 50 {
			return fmt.Sprint(text.String(), "and ", len(l)-i, " more")
		}
		fmt.Fprintf(&text, "%d %s at %d; ", token.Kind, brief(token.Text), token.At)
	}
	return text.String()
}

// checkAnswer compares Lex with want; on failure the slice must be nil.
func checkAnswer(t *testing.T, what, s string, want answer) {
	t.Helper()
	l, err, at := lexer.Lex(s)
	if !slices.Equal(l, want.l) || err != want.err || at != want.at {
		t.Errorf("%s: Lex(%s) = [%s], %d, %d, want [%s], %d, %d", what, brief(s), describe(l), err, at, describe(want.l), want.err, want.at)
	}
	if err != api.OK && l != nil {
		t.Errorf("%s: Lex(%s) = %v with error %d, want nil", what, brief(s), l, err)
	}
}

// checkTokens checks that Lex returns the tokens with these texts, which stand in s in this order, OK and 0.
func checkTokens(t *testing.T, what, s string, texts ...string) {
	t.Helper()
	checkAnswer(t, what, s, answer{l: tokensOf(s, texts...)})
}

// checkApart checks that Lex returns two tokens with what stands between them, in which their texts may occur, too.
func checkApart(t *testing.T, what, first, between, second string) {
	t.Helper()
	l := append(tokensOf(first, first), tokensOf(second, second)...)
	l[1].At = len(first) + len(between)
	checkAnswer(t, what, first+between+second, answer{l: l})
}

// checkFault checks that Lex returns a nil slice, ErrToken and an offset.
func checkFault(t *testing.T, what, s string, at int) {
	t.Helper()
	checkAnswer(t, what, s, answer{err: api.ErrToken, at: at})
}

// bytesOf are all bytes of the kinds that the chapter names, and all others.
var bytesOf = map[string]string{
	"white":      " \t\n\r",
	"comment":    "#",
	"letter":     "ABCDEFGHIJKLMNOPQRSTUVWXYZabcdefghijklmnopqrstuvwxyz",
	"zero":       "0",
	"digit":      "123456789",
	"underscore": "_",
	"minus":      "-",
	"sign":       "(){};,",
	"other":      otherBytes(),
}

// otherBytes are the bytes from 0 to 255 that no token contains, and that are neither white space nor begin a comment.
func otherBytes() string {
	var l []byte
	for b := range 256 {
		switch {
		case b < 9, b == 11, b == 12, b > 13 && b < 32, b > 125, strings.IndexByte("!\"$%&'*+./:<=>?@[\\]^`|", byte(b)) >= 0:
			l = append(l, byte(b))
		}
	}
	return string(l)
}

// small calls f with each string of at most most bytes of an alphabet.
func small(alphabet string, most int, f func(s string)) {
	var extend func(s []byte)
	extend = func(s []byte) {
		f(string(s))
		if len(s) == most {
			return
		}
		for _, b := range []byte(alphabet) {
			extend(append(s, b))
		}
	}
	extend(make([]byte, 0, most))
}

// pieces are tokens, white space, comments and faults, of which random texts are made.
var pieces = []string{
	"a", "Z", "go", "x_1", "_", "__", "_a", "a_", "when9", "0", "1", "-1", "-", "--", "00", "-0", "01", "-01", "7x", "7_", "123456789", "1234567890", "-123456789", "-1234567890",
	"(", ")", "{", "}", ";", ",", " ", "  ", "\t", "\n", "\r", "\r\n", "#", "# c\n", "#(-#\r\n", "##", "#\n", "~", "\x00", "\xff", "é", "+", ".", "\v", "\f",
}

// drawText is a text of random pieces with few faults, or with many.
func drawText(r *rand.Rand, most int) string {
	var text strings.Builder
	faulty := r.Intn(2) == 0
	for range r.Intn(most) {
		piece := pieces[r.Intn(len(pieces))]
		if !faulty && answerTo(piece).err != api.OK {
			piece = " "
		}
		text.WriteString(piece)
	}
	return text.String()
}

// drawBytes are random bytes, of all kinds or of the first ones of Unicode.
func drawBytes(r *rand.Rand, most int) string {
	s := make([]byte, r.Intn(most))
	limit := []int{128, 256}[r.Intn(2)]
	for i := range s {
		s[i] = byte(r.Intn(limit))
	}
	return string(s)
}

// drawWhite is random white space of at least least bytes.
func drawWhite(r *rand.Rand, least int) string {
	s := make([]byte, least+r.Intn(3))
	for i := range s {
		s[i] = " \t\n\r"[r.Intn(4)]
	}
	return string(s)
}

// drawGap is random white space with comments in between, which does not end inside a comment.
func drawGap(r *rand.Rand) string {
	gap := drawWhite(r, 0)
	for range r.Intn(3) {
		gap += "#" + strings.ReplaceAll(drawBytes(r, 9), "\n", "#") + "\n" + drawWhite(r, 0)
	}
	return gap
}
