package parser_test

import (
	"fmt"
	"math/rand"
	"reflect"
	"regexp"
	"slices"
	"strconv"
	"strings"
	"testing"

	"ambidexter/api"
	"ambidexter/lexer"
	"ambidexter/parser"
)

// answer are the results of Parse.
type answer struct {
	l      []api.Stmt
	faults []api.Diagnostic
}

// piece is a token with its offset.
type piece struct {
	text string
	at   int
}

// sentences are the tokens of all statements by their keywords; A is an arm, N a name and # a number. The statements within a When do not belong to it.
var sentences = map[string]string{
	"go":   "go A ( # , # , # ) ;",
	"home": "home A ;",
	"pick": "pick A N ;",
	"put":  "put A N ;",
	"hand": "hand A N ;",
	"wait": "wait # ;",
	"when": "when N N {",
	"both": "both ( # , # , # ) ( # , # , # ) ;",
}

// keywords are the keywords in the order of the kinds, and the kinds of statements that have no statements within.
var keywords = []string{"", "go", "home", "pick", "put", "hand", "wait", "when", "both"}

// The forms of texts.
var (
	commentForm = regexp.MustCompile(`#[^\n]*`)
	pieceForm   = regexp.MustCompile(`[A-Za-z][A-Za-z0-9_]*|-?[0-9]+|[(){};,]`)
	nameForm    = regexp.MustCompile(`\A[A-Za-z][A-Za-z0-9_]{0,11}\z`)
	numberForm  = regexp.MustCompile(`\A(0|-?[1-9][0-9]{0,8})\z`)
	armForm     = regexp.MustCompile(`\A[01]\z`)
)

// piecesOf are the tokens of a text that the lexer accepts.
func piecesOf(s string) []piece {
	var l []piece
	bare := commentForm.ReplaceAllStringFunc(s, func(c string) string { return strings.Repeat(" ", len(c)) })
	for _, x := range pieceForm.FindAllStringIndex(bare, -1) {
		l = append(l, piece{s[x[0]:x[1]], x[0]})
	}
	return l
}

// isName tells whether a text is a name.
func isName(s string) bool { return nameForm.MatchString(s) && sentences[s] == "" }

// fits tells whether a token may stand where a sentence has a word.
func fits(text, word string) bool {
	switch word {
	case "A":
		return armForm.MatchString(text)
	case "N":
		return isName(text)
	case "#":
		return numberForm.MatchString(text)
	}
	return text == word
}

// build is the statement of a sentence.
func build(l []piece) api.Stmt {
	s := api.Stmt{Kind: slices.Index(keywords, l[0].text), At: l[0].at}
	var names []string
	var numbers []int
	for _, p := range l[1:] {
		if n, err := strconv.Atoi(p.text); err == nil {
			numbers = append(numbers, n)
		} else if isName(p.text) {
			names = append(names, p.text)
		}
	}
	switch l[0].text {
	case "go":
		s.Arm = numbers[0]
		s.To[s.Arm] = api.Joints(numbers[1:])
	case "home":
		s.Arm = numbers[0]
	case "pick":
		s.Arm, s.Part = numbers[0], names[0]
	case "put", "hand":
		s.Arm, s.Place = numbers[0], names[0]
	case "wait":
		s.N = numbers[0]
	case "when":
		s.Place, s.Part = names[0], names[1]
	case "both":
		s.To[0], s.To[1] = api.Joints(numbers[:3]), api.Joints(numbers[3:])
	}
	return s
}

// answerTo are the results of Parse, found by a loop over the tokens with a list of the Whens that are open.
func answerTo(s string) answer {
	if _, err, at := lexer.Lex(s); err != api.OK {
		return answer{faults: []api.Diagnostic{{Err: err, At: at}}}
	}
	l := piecesOf(s)
	open := []api.Stmt{{}} // the first one stands for the whole text
	begun := 0
	var faults []api.Diagnostic
	for len(l) > 0 && len(faults) < 20 {
		inner := &open[len(open)-1]
		if l[0].text == "}" && len(open) > 1 {
			outer := &open[len(open)-2]
			outer.Kids = append(outer.Kids, *inner)
			open, l = open[:len(open)-1], l[1:]
			continue
		}
		if l[0].text == "}" {
			faults, l = append(faults, syntax(l[0].at)), l[1:]
			continue
		}
		begun++
		if begun > 64 {
			faults = append(faults, big(l[0].at))
			return answer{open[0].Kids, faults}
		}
		words := strings.Fields(sentences[l[0].text])
		n := 0
		for n < len(words) && n < len(l) && fits(l[n].text, words[n]) {
			n++
		}
		switch {
		case l[0].text == "when" && len(open) == 5:
			faults, l = append(faults, big(l[0].at)), rest(l)
		case n == len(words) && n > 0 && l[0].text == "when":
			open, l = append(open, build(l[:n])), l[n:]
		case n == len(words) && n > 0:
			inner.Kids, l = append(inner.Kids, build(l[:n])), l[n:]
		case n == len(l):
			faults = append(faults, ended(len(s)))
			return answer{open[0].Kids, faults}
		default:
			faults, l = append(faults, syntax(l[n].at)), rest(l[n:])
		}
	}
	if len(open) > 1 && len(faults) < 20 {
		faults = append(faults, ended(len(s)))
	}
	return answer{open[0].Kids, faults}
}

// rest are the tokens behind the next semicolon, or from the next closing bracket on.
func rest(l []piece) []piece {
	for i, p := range l {
		switch p.text {
		case ";":
			return l[i+1:]
		case "}":
			return l[i:]
		}
	}
	return nil
}

// syntax, big and ended are faults.
func syntax(at int) api.Diagnostic { return api.Diagnostic{Err: api.ErrSyntax, At: at} }
func big(at int) api.Diagnostic    { return api.Diagnostic{Err: api.ErrBig, At: at} }
func ended(at int) api.Diagnostic  { return api.Diagnostic{Err: api.ErrEnd, At: at} }

// normal is a copy of statements without offsets, and without the difference between nil and empty slices.
func normal(l []api.Stmt) []api.Stmt {
	var copies []api.Stmt
	for _, s := range l {
		s.At = 0
		s.Kids = normal(s.Kids)
		copies = append(copies, s)
	}
	return copies
}

// exact is a copy of statements with offsets, but without the difference between nil and empty slices.
func exact(l []api.Stmt) []api.Stmt {
	var copies []api.Stmt
	for _, s := range l {
		s.Kids = exact(s.Kids)
		copies = append(copies, s)
	}
	return copies
}

// areEqual tells whether statements are equal except for their offsets.
func areEqual(a, b []api.Stmt) bool { return reflect.DeepEqual(normal(a), normal(b)) }

// areSame tells whether statements and their offsets are equal.
func areSame(a, b []api.Stmt) bool { return reflect.DeepEqual(exact(a), exact(b)) }

// nested is a statement with the number of Whens around it.
type nested struct {
	api.Stmt
	depth int
}

// flatten lists statements and those within, each in front of those within it.
func flatten(l []api.Stmt, depth int) []nested {
	var all []nested
	for _, s := range l {
		all = append(all, nested{s, depth})
		all = append(all, flatten(s.Kids, depth+1)...)
	}
	return all
}

// fieldsOf are the fields of statements by their kinds, without Kind and At.
var fieldsOf = map[int]string{
	api.Go: "Arm To", api.Home: "Arm", api.Pick: "Arm Part", api.Put: "Arm Place", api.Hand: "Arm Place",
	api.Wait: "N", api.When: "Place Part Kids", api.Both: "To",
}

// isValid tells whether statements are valid.
func isValid(l []api.Stmt) bool {
	all := flatten(l, 0)
	for _, s := range all {
		if fieldsOf[s.Kind] == "" || s.Arm < 0 || s.Arm > 1 || s.Kind == api.When && s.depth > 3 {
			return false
		}
		fields := strings.Fields(fieldsOf[s.Kind])
		v := reflect.ValueOf(s.Stmt)
		for i := range v.NumField() {
			name := v.Type().Field(i).Name
			zero := v.Field(i).IsZero() || name == "Kids" && v.Field(i).Len() == 0
			if name != "Kind" && name != "At" && !slices.Contains(fields, name) && !zero {
				return false
			}
			if (name == "Part" || name == "Place") && slices.Contains(fields, name) && !isName(v.Field(i).String()) {
				return false
			}
		}
		if s.Kind == api.Go && s.To[1-s.Arm] != (api.Joints{}) {
			return false
		}
		for _, n := range append(append(s.To[0][:], s.To[1][:]...), s.N) {
			if !numberForm.MatchString(strconv.Itoa(n)) {
				return false
			}
		}
	}
	return len(all) <= 64
}

// textOf is the text of valid statements within certain blanks.
func textOf(l []api.Stmt, blanks string) string {
	var text strings.Builder
	for _, s := range l {
		text.WriteString(blanks)
		switch q := s.To; s.Kind {
		case api.Go:
			fmt.Fprintf(&text, "go %d (%d, %d, %d);\n", s.Arm, q[s.Arm][0], q[s.Arm][1], q[s.Arm][2])
		case api.Home:
			fmt.Fprintf(&text, "home %d;\n", s.Arm)
		case api.Pick:
			fmt.Fprintf(&text, "pick %d %s;\n", s.Arm, s.Part)
		case api.Put:
			fmt.Fprintf(&text, "put %d %s;\n", s.Arm, s.Place)
		case api.Hand:
			fmt.Fprintf(&text, "hand %d %s;\n", s.Arm, s.Place)
		case api.Wait:
			fmt.Fprintf(&text, "wait %d;\n", s.N)
		case api.When:
			fmt.Fprintf(&text, "when %s %s {\n%s%s}\n", s.Place, s.Part, textOf(s.Kids, blanks+"  "), blanks)
		case api.Both:
			fmt.Fprintf(&text, "both (%d, %d, %d) (%d, %d, %d);\n", q[0][0], q[0][1], q[0][2], q[1][0], q[1][1], q[1][2])
		}
	}
	return text.String()
}

// describe is a short text of statements in one line, each with its offset.
func describe(l []api.Stmt) string {
	var words []string
	for _, s := range l {
		kids := s.Kids
		s.Kids = nil
		text := fmt.Sprintf("%d:%s", s.At, strings.Join(strings.Fields(textOf([]api.Stmt{s}, "")), " "))
		if s.Kind == api.When && len(kids) > 0 {
			text = strings.TrimSuffix(text, "}") + describe(kids) + " }"
		}
		words = append(words, text)
	}
	return strings.Join(words, " ")
}

// brief is a quoted string, shortened if it is long.
func brief(s string) string {
	if len(s) > 500 {
		return fmt.Sprintf("%q.. (%d bytes)", s[:500], len(s))
	}
	return fmt.Sprintf("%q", s)
}

// checkPromises checks what holds for the results of Parse for every text: valid statements, and the order and the positions of faults and statements.
func checkPromises(t *testing.T, what, s string, got answer) {
	t.Helper()
	if !isValid(got.l) || !parser.Valid(got.l) {
		t.Errorf("%s: Parse(%s) returns statements that are not valid: %v", what, brief(s), got.l)
	}
	if _, err, _ := lexer.Lex(s); err != api.OK {
		return
	}
	texts := map[int]string{len(s): ""}
	for _, p := range piecesOf(s) {
		texts[p.at] = p.text
	}
	last := 0
	for _, f := range got.faults {
		if _, known := texts[f.At]; !known || f.At < last || (f.Err == api.ErrEnd) != (f.At == len(s)) {
			t.Errorf("%s: Parse(%s) reports faults at %v", what, brief(s), got.faults)
		}
		last = f.At
	}
	last = -1
	for _, n := range flatten(got.l, 0) {
		if n.At <= last || texts[n.At] != keywords[n.Kind] {
			t.Errorf("%s: Parse(%s) returns statements at wrong offsets: %s", what, brief(s), describe(got.l))
		}
		last = n.At
	}
	if len(got.faults) > 20 {
		t.Errorf("%s: Parse(%s) reports %d faults", what, brief(s), len(got.faults))
	}
}

// parse calls Parse and checks what holds for every text.
func parse(t *testing.T, what, s string) answer {
	t.Helper()
	l, faults := parser.Parse(s)
	got := answer{l, faults}
	checkPromises(t, what, s, got)
	return got
}

// checkAnswer compares the results of Parse with what is wanted.
func checkAnswer(t *testing.T, what, s string, want answer) answer {
	t.Helper()
	got := parse(t, what, s)
	if !areSame(got.l, want.l) || !slices.Equal(got.faults, want.faults) {
		t.Errorf("%s: Parse(%s) = [%s], %v, want [%s], %v", what, brief(s), describe(got.l), got.faults, describe(want.l), want.faults)
	}
	return got
}

// checkText compares the results of Parse with what the oracle finds.
func checkText(t *testing.T, what, s string) answer {
	t.Helper()
	return checkAnswer(t, what, s, answerTo(s))
}

// checkParse compares the results of Parse with statements in the form of describe, and with faults.
func checkParse(t *testing.T, what, s, want string, faults ...api.Diagnostic) {
	t.Helper()
	got := checkText(t, what, s)
	if describe(got.l) != want || !slices.Equal(got.faults, faults) {
		t.Errorf("%s: Parse(%s) = [%s], %v, want [%s], %v", what, brief(s), describe(got.l), got.faults, want, faults)
	}
}

// sequences calls f with each sequence of at most most pieces, joined by blanks.
func sequences(pieces []string, most int, f func(s string)) {
	var extend func(s string, left int)
	extend = func(s string, left int) {
		f(s)
		if left == 0 {
			return
		}
		for _, p := range pieces {
			extend(strings.TrimSpace(s+" "+p), left-1)
		}
	}
	extend("", most)
}

// names are names of which random statements are made.
var names = []string{"cup", "belt", "a", "Z", "x_1", "GO", "When", "go1", "both_", "abcdefghijkl", "A1_b2_C3_d4_"}

// drawName is a random name.
func drawName(r *rand.Rand) string { return names[r.Intn(len(names))] }

// drawNumber is a random number that a text can contain.
func drawNumber(r *rand.Rand) int {
	switch r.Intn(4) {
	case 0:
		return []int{0, 1, -1, 9, -9, 10, 999999999, -999999999, 100000000, 123456789, -123456789}[r.Intn(11)]
	case 1:
		return r.Intn(1999999999) - 999999999
	}
	return r.Intn(37) - 18
}

// drawTriple are three random numbers.
func drawTriple(r *rand.Rand) api.Joints {
	return api.Joints{drawNumber(r), drawNumber(r), drawNumber(r)}
}

// drawStmt is a random valid statement of a kind, without statements within.
func drawStmt(r *rand.Rand, kind int) api.Stmt {
	s := api.Stmt{Kind: kind}
	if strings.Contains(fieldsOf[kind], "Arm") {
		s.Arm = r.Intn(2)
	}
	if strings.Contains(fieldsOf[kind], "Part") {
		s.Part = drawName(r)
	}
	if strings.Contains(fieldsOf[kind], "Place") {
		s.Place = drawName(r)
	}
	switch kind {
	case api.Go:
		s.To[s.Arm] = drawTriple(r)
	case api.Wait:
		s.N = drawNumber(r)
	case api.Both:
		s.To = [2]api.Joints{drawTriple(r), drawTriple(r)}
	}
	return s
}

// drawStmts are random valid statements, at most most of them, within depth Whens.
func drawStmts(r *rand.Rand, most, depth int) []api.Stmt {
	var l []api.Stmt
	for left := r.Intn(most + 1); left > 0; {
		kind := 1 + r.Intn(8)
		if kind == api.When && depth == 4 {
			continue
		}
		s := drawStmt(r, kind)
		left--
		if kind == api.When {
			s.Kids = drawStmts(r, left, depth+1)
			left -= len(flatten(s.Kids, 0))
		}
		l = append(l, s)
	}
	return l
}

// drawGap is random white space with comments in between, of at least one byte, which does not end inside a comment.
func drawGap(r *rand.Rand) string {
	gap := string(" \t\n\r"[r.Intn(4)])
	for range r.Intn(3) {
		gap += []string{" ", "\n", "# go 1 }\n", "#\n", "#;#\n\t", "\r\n"}[r.Intn(6)]
	}
	return gap
}

// spaced are tokens with random gaps between them.
func spaced(r *rand.Rand, tokens []string) string {
	text := ""
	for _, token := range tokens {
		text += token + drawGap(r)
	}
	return text
}

// tokensOf are the texts of the tokens of a text.
func tokensOf(s string) []string {
	var l []string
	for _, p := range piecesOf(s) {
		l = append(l, p.text)
	}
	return l
}

// strange are tokens that are put into random texts.
var strange = []string{
	"go", "home", "pick", "put", "hand", "wait", "when", "both", "cup", "belt", "abcdefghijkl", "abcdefghijklm", "Go",
	"0", "1", "2", "-1", "7", "999999999", "(", ")", "{", "}", ";", ",", "{", "}", ";", "}", ";", "when a b {", "home 0 ;", "wait 5 ;",
}

// drawText is a random text: that of valid statements with few or many tokens removed, added, doubled and replaced.
func drawText(r *rand.Rand) string {
	tokens := tokensOf(textOf(drawStmts(r, []int{3, 10, 64}[r.Intn(3)], 0), ""))
	for range r.Intn([]int{1, 2, 4, 60}[r.Intn(4)]) {
		i := r.Intn(len(tokens) + 1)
		switch token := strange[r.Intn(len(strange))]; {
		case i == len(tokens) || r.Intn(4) == 0:
			tokens = slices.Insert(tokens, i, token)
		case r.Intn(3) == 0:
			tokens = slices.Delete(tokens, i, i+1)
		case r.Intn(2) == 0:
			tokens = slices.Insert(tokens, i, tokens[i])
		default:
			tokens[i] = token
		}
	}
	return spaced(r, tokens)
}
