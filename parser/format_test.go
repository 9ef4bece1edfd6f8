package parser_test

import (
	"math/rand"
	"slices"
	"strings"
	"testing"

	"ambidexter/api"
	"ambidexter/parser"
)

// checkFormat compares Format with a text, and what Parse makes of it with the statements.
func checkFormat(t *testing.T, what string, l []api.Stmt, want string) {
	t.Helper()
	if got := parser.Format(l); got != want || textOf(l, "") != want {
		t.Errorf("%s: Format(%v) = %q, the oracle says %q, want %q", what, l, got, textOf(l, ""), want)
	}
	got := parse(t, what, want)
	if len(got.faults) > 0 || !areEqual(got.l, l) || !parser.Equal(got.l, l) {
		t.Errorf("%s: Parse(%s) = %v, %v, want %v", what, brief(want), got.l, got.faults, l)
	}
}

// P11.1 (K2), P11.2: statements of each kind, with negative numbers and with numbers of nine digits.
func TestFormatEachKind(t *testing.T) {
	checkFormat(t, "none", nil, "")
	checkFormat(t, "none", []api.Stmt{}, "")
	for _, x := range []struct {
		s    api.Stmt
		want string
	}{
		{api.Stmt{Kind: api.Go, To: [2]api.Joints{{1, -2, 3}, {}}}, "go 0 (1, -2, 3);\n"},
		{api.Stmt{Kind: api.Go, Arm: 1, To: [2]api.Joints{{}, {0, -17, 18}}}, "go 1 (0, -17, 18);\n"},
		{api.Stmt{Kind: api.Go, Arm: 1}, "go 1 (0, 0, 0);\n"},
		{api.Stmt{Kind: api.Go, To: [2]api.Joints{{999999999, -999999999, 123456789}, {}}}, "go 0 (999999999, -999999999, 123456789);\n"},
		{api.Stmt{Kind: api.Home}, "home 0;\n"},
		{api.Stmt{Kind: api.Home, Arm: 1}, "home 1;\n"},
		{api.Stmt{Kind: api.Pick, Part: "cup"}, "pick 0 cup;\n"},
		{api.Stmt{Kind: api.Pick, Arm: 1, Part: "abcdefghijkl"}, "pick 1 abcdefghijkl;\n"},
		{api.Stmt{Kind: api.Put, Place: "A1_b2_C3_d4_"}, "put 0 A1_b2_C3_d4_;\n"},
		{api.Stmt{Kind: api.Put, Arm: 1, Place: "x"}, "put 1 x;\n"},
		{api.Stmt{Kind: api.Hand, Place: "Go"}, "hand 0 Go;\n"},
		{api.Stmt{Kind: api.Hand, Arm: 1, Place: "tray"}, "hand 1 tray;\n"},
		{api.Stmt{Kind: api.Wait}, "wait 0;\n"},
		{api.Stmt{Kind: api.Wait, N: 20}, "wait 20;\n"},
		{api.Stmt{Kind: api.Wait, N: -1}, "wait -1;\n"},
		{api.Stmt{Kind: api.Wait, N: 999999999}, "wait 999999999;\n"},
		{api.Stmt{Kind: api.Wait, N: -999999999}, "wait -999999999;\n"},
		{api.Stmt{Kind: api.When, Place: "belt", Part: "cup"}, "when belt cup {\n}\n"},
		{api.Stmt{Kind: api.When, Place: "a", Part: "b", Kids: homes(1)}, "when a b {\n  home 0;\n}\n"},
		{api.Stmt{Kind: api.Both}, "both (0, 0, 0) (0, 0, 0);\n"},
		{api.Stmt{Kind: api.Both, To: [2]api.Joints{{1, 2, 3}, {-4, -5, -6}}}, "both (1, 2, 3) (-4, -5, -6);\n"},
		{api.Stmt{Kind: api.Both, To: [2]api.Joints{{100000000, 0, -1}, {-100000000, 9, 10}}}, "both (100000000, 0, -1) (-100000000, 9, 10);\n"},
	} {
		checkFormat(t, "one statement", []api.Stmt{x.s}, x.want)
		checkFormat(t, "two statements", []api.Stmt{x.s, x.s}, x.want+x.want)
		x.s.At = 77
		checkFormat(t, "a statement with an offset", []api.Stmt{x.s}, x.want)
		nested, blanks := x.want, ""
		for depth := 1; depth < 4; depth++ {
			lines := strings.SplitAfter(strings.TrimSuffix(nested, "\n"), "\n")
			nested, blanks = "when a b {\n  "+strings.Join(lines, "  ")+"\n}\n", blanks+"  "
			checkFormat(t, "a nested statement", within(depth, []api.Stmt{x.s}), nested)
		}
		if !strings.Contains(nested, "\n"+blanks+strings.SplitAfter(x.want, "\n")[0]) {
			t.Errorf("%q does not contain %q with an indentation", nested, x.want)
		}
	}
}

// P11.1 (K2), P11.2: nested statements.
func TestFormatNested(t *testing.T) {
	const text = `go 1 (0, -3, 4);
when belt cup {
  pick 0 cup;
  when tray lid {
    when a b {
      when c d {
        put 0 tray;
        wait 5;
      }
      home 1;
    }
  }
  when e f {
  }
  both (1, 2, 3) (4, 5, 6);
}
hand 0 tray;
when g h {
}
home 0;
`
	got := parse(t, "nested statements", text)
	if len(got.faults) > 0 || len(flatten(got.l, 0)) != 14 {
		t.Fatalf("Parse = [%s], %v", describe(got.l), got.faults)
	}
	checkFormat(t, "nested statements", got.l, text)
	checkFormat(t, "four levels", within(4, homes(2)), "when a b {\n  when a b {\n    when a b {\n      when a b {\n        home 0;\n        home 0;\n      }\n    }\n  }\n}\n")
	checkFormat(t, "four levels without statements", within(4, nil), "when a b {\n  when a b {\n    when a b {\n      when a b {\n      }\n    }\n  }\n}\n")
	checkFormat(t, "64 statements", homes(64), strings.Repeat("home 0;\n", 64))
	long := api.Stmt{Kind: api.Both, To: [2]api.Joints{{-999999999, -999999999, -999999999}, {-999999999, -999999999, -999999999}}}
	line := "both (-999999999, -999999999, -999999999) (-999999999, -999999999, -999999999);\n"
	checkFormat(t, "the longest text", within(4, slices.Repeat([]api.Stmt{long}, 60)),
		"when a b {\n  when a b {\n    when a b {\n      when a b {\n"+strings.Repeat("        "+line, 60)+"      }\n    }\n  }\n}\n")
}

// P11.2: Parse of the text of random valid statements, and Format of what is read from random texts.
func TestRoundTrip(t *testing.T) {
	r := rand.New(rand.NewSource(112))
	full, deep := 0, 0
	for range 3000 {
		l := drawStmts(r, 64, 0)
		checkFormat(t, "random statements", l, textOf(l, ""))
		all := flatten(l, 0)
		if len(all) > 60 {
			full++
		}
		if slices.ContainsFunc(all, func(n nested) bool { return n.depth == 4 }) {
			deep++
		}
	}
	if full < 100 || deep < 100 {
		t.Errorf("%d long and %d deep lists", full, deep)
	}
	several := 0
	for range 3000 {
		s := drawText(r)
		got := parse(t, "a random text", s)
		checkFormat(t, "what is read from a random text", got.l, textOf(got.l, ""))
		if len(got.l) > 1 && len(got.faults) > 0 {
			several++
		}
	}
	if several < 500 {
		t.Errorf("%d texts with faults and several statements", several)
	}
}

// P1: Format answers for statements that are not valid, too, for which nothing else is specified.
func TestFormatOfOthers(t *testing.T) {
	endless := within(1, nil)
	endless[0].Kids = endless
	for _, l := range [][]api.Stmt{
		{{}}, {{Kind: -1}}, {{Kind: 9}}, {{Kind: api.Go, Arm: 2}}, {{Kind: api.Go, Arm: -1}}, {{Kind: 1 << 40, Arm: 1 << 40}}, homes(65), within(5, nil), within(100000, nil), endless,
	} {
		parser.Format(l)
	}
}
