package parser

import (
	"slices"

	"ambidexter/api"
	"ambidexter/lexer"
)

// mostNumber is the largest number of a statement, and its opposite the smallest one.
const mostNumber = 999999999

// Valid reports whether statements are valid.
func Valid(l []api.Stmt) bool {
	left := api.MaxStmts // statements that may still follow
	var areValid func(l []api.Stmt, depth int) bool
	areValid = func(l []api.Stmt, depth int) bool {
		left -= len(l)
		if left < 0 {
			return false
		}
		for _, s := range l {
			if !hasValidFields(s) || !mayBeIn(s, depth) || !areValid(s.Kids, depth+1) {
				return false
			}
		}
		return true
	}
	return areValid(l, 0)
}

// mayBeIn reports whether s, with Kids if it has any, may be nested in depth Whens.
func mayBeIn(s api.Stmt, depth int) bool {
	if s.Kind == api.When {
		return depth < api.MaxDeep
	}
	return len(s.Kids) == 0
}

// hasValidFields reports whether the fields of s other than Kids are valid.
func hasValidFields(s api.Stmt) bool {
	if s.Kind < api.Go || s.Kind > api.Both {
		return false
	}
	bare := api.Stmt{Kind: s.Kind}
	for _, o := range layouts[s.Kind].operands {
		if !o.copyTo(&bare, s) {
			return false
		}
	}
	// All fields that are no operands must be zero, as they are here.
	return equalFields(s, bare)
}

// copyTo copies an operand of s to another statement and reports whether it is valid.
func (o operand) copyTo(other *api.Stmt, s api.Stmt) bool {
	switch o {
	case arm:
		other.Arm = s.Arm
		return s.Arm == 0 || s.Arm == 1
	case part:
		other.Part = s.Part
		return isName(s.Part)
	case place:
		other.Place = s.Place
		return isName(s.Place)
	case number:
		other.N = s.N
		return isNumber(s.N)
	}
	k := o.armOf(s)
	other.To[k] = s.To[k]
	return areNumbers(s.To[k])
}

// isName reports whether a text is a name.
func isName(text string) bool {
	tokens, _, _ := lexer.Lex(text)
	// There may be blanks or a comment beside the token.
	return len(tokens) == 1 && tokens[0].Text == text && isNameToken(tokens[0])
}

// isNumber reports whether a text can contain the number n.
func isNumber(n int) bool { return -mostNumber <= n && n <= mostNumber }

// areNumbers reports whether a text can contain the numbers of q.
func areNumbers(q api.Joints) bool {
	return isNumber(q[0]) && isNumber(q[1]) && isNumber(q[2])
}

// Equal reports whether statements are equal, ignoring offsets.
func Equal(a []api.Stmt, b []api.Stmt) bool {
	type pair struct{ a, b []api.Stmt }
	// A list of what is left, and no recursion, as statements that are not valid may be nested too deeply for the stack.
	left := []pair{{a, b}}
	for len(left) > 0 {
		x := left[len(left)-1]
		left = left[:len(left)-1]
		if !slices.EqualFunc(x.a, x.b, equalFields) {
			return false
		}
		for i := range x.a {
			left = append(left, pair{x.a[i].Kids, x.b[i].Kids})
		}
	}
	return true
}

// equalFields reports whether two statements are equal except for At and Kids.
func equalFields(a, b api.Stmt) bool {
	return a.Kind == b.Kind && a.Arm == b.Arm && a.Part == b.Part && a.Place == b.Place && a.N == b.N && a.To == b.To
}
