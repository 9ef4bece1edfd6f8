package parser

import (
	"strconv"
	"strings"

	"ambidexter/api"
)

// indentation precedes the lines of statements once for each enclosing When.
const indentation = "  "

// Format returns the canonical text of valid statements.
func Format(l []api.Stmt) string {
	// Nothing is specified for other statements, but they might be nested without end.
	if !Valid(l) {
		return ""
	}
	var text strings.Builder
	writeLines(&text, l, "")
	return text.String()
}

// writeLines writes the lines of statements, which begin with certain blanks.
func writeLines(text *strings.Builder, l []api.Stmt, blanks string) {
	for _, s := range l {
		text.WriteString(blanks + textOf(s))
		if s.Kind != api.When {
			text.WriteString(semicolon + "\n")
			continue
		}
		text.WriteString(" " + openCurly + "\n")
		writeLines(text, s.Kids, blanks+indentation)
		text.WriteString(blanks + closeCurly + "\n")
	}
}

// textOf returns the keyword and the operands of s.
func textOf(s api.Stmt) string {
	words := []string{layouts[s.Kind].keyword}
	for _, o := range layouts[s.Kind].operands {
		words = append(words, o.textIn(s))
	}
	return strings.Join(words, " ")
}

// textIn returns the text of an operand of s.
func (o operand) textIn(s api.Stmt) string {
	switch o {
	case arm:
		return strconv.Itoa(s.Arm)
	case part:
		return s.Part
	case place:
		return s.Place
	case number:
		return strconv.Itoa(s.N)
	}
	return triple(s.To[o.armOf(s)])
}

// triple returns the text of three numbers.
func triple(q api.Joints) string {
	var numerals []string
	for _, n := range q {
		numerals = append(numerals, strconv.Itoa(n))
	}
	return openRound + strings.Join(numerals, comma+" ") + closeRound
}
