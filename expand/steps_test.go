package expand_test

import (
	"fmt"
	"math"
	"math/rand"
	"reflect"
	"slices"
	"strings"
	"sync"
	"testing"

	"ambidexter/api"
	"ambidexter/cell"
	"ambidexter/expand"
)

// none is the diagnostic of a program without errors.
var none api.Diagnostic

// checkSteps compares Steps with want.
func checkSteps(t *testing.T, what string, c api.Cell, l []api.Stmt, w api.State, d api.Diagnostic, want ...api.Step) {
	t.Helper()
	if !cell.Valid(c) || !isState(c, w) || !isProgram(c, l, 0) {
		t.Fatalf("%s: nothing is specified for %v in %v and %v", what, l, w, c)
	}
	if got, e := expand.Steps(c, l, w); !slices.Equal(got, want) || e != d {
		n := common(got, want)
		t.Errorf("%s: Steps of %v in %v = %v, %v, want %v, %v, behind %d steps", what, l, w, got[n:], e, want[n:], d, n)
	}
}

// common is the number of steps with which both lists begin.
func common(l, m []api.Step) int {
	n := 0
	for n < min(len(l), len(m)) && l[n] == m[n] {
		n++
	}
	return n
}

// checkProgram compares Steps with M2.
func checkProgram(t *testing.T, what string, c api.Cell, l []api.Stmt, w api.State) {
	t.Helper()
	want, d, _ := answerTo(c, l, w)
	checkSteps(t, what, c, l, w, d, want...)
}

// checkText checks that the statements of a text have no error and certain steps.
func checkText(t *testing.T, c api.Cell, w api.State, text string, want ...api.Step) {
	t.Helper()
	checkSteps(t, text, c, statements(t, text), w, none, want...)
}

// checkFault checks that the statements of a text, in which all errors are marked by a word before the statement, have the error err at the only mark and certain steps before.
func checkFault(t *testing.T, c api.Cell, w api.State, text string, err api.Errno, want ...api.Step) {
	t.Helper()
	before, behind, found := strings.Cut(text, "! ")
	if !found {
		t.Fatalf("%q has no mark", text)
	}
	checkSteps(t, text, c, statements(t, before+behind), w, api.Diagnostic{Err: err, At: len(before)}, want...)
}

// armed puts arm k for %d, and the other arm for %D, into a text.
func armed(text string, k int) string {
	return strings.NewReplacer("%d", fmt.Sprint(k), "%D", fmt.Sprint(1-k)).Replace(text)
}

// P13.1 (M2): the empty program, in lists that are nil and empty.
func TestEmptyProgram(t *testing.T) {
	c := described(t, bench)
	w := cell.InitialState(c)
	checkSteps(t, "nil", c, nil, w, none)
	checkSteps(t, "an empty list", c, []api.Stmt{}, w, none)
	checkSteps(t, "while parts are held and lost", c, nil, holding(resting(w, bolt, -1), 1, nut), none)
	checkSteps(t, "a bare cell", bare(c), nil, cell.InitialState(bare(c)), none)
	checkText(t, c, w, "# nothing")
	checkText(t, c, w, "when middle nut { } when far nut { when far nut { } }")
}

// P13.1 (M2): a statement of each kind for each arm, without errors.
func TestOneStatement(t *testing.T) {
	c := described(t, bench)
	for k := range 2 {
		w := cell.InitialState(c)
		full := holding(w, k, leftPart)
		check := func(w api.State, text string, want ...api.Step) {
			t.Helper()
			checkText(t, c, w, armed(text, k), want...)
		}
		check(w, "go %d (1, 2, 3);", goes(k, api.Joints{1, 2, 3}))
		check(full, "go %d (18, 18, 18);", goes(k, api.Joints{18, 18, 18}))
		check(w, "home %d;", goes(k, c.Home[k]))
		check(standing(w, k, api.Joints{1, 2, 3}), "home %d;", goes(k, c.Home[k]))
		check(w, "pick %d nut;", goes(k, atMiddle[k]), takes(k, nut, middle))
		check(w, "pick %d bolt;", goes(k, atLower[k]), takes(k, bolt, lower))
		check(resting(w, leftPart, side), "pick %d left;", goes(k, atSide[k]), takes(k, leftPart, side))
		check(holding(w, 1-k, leftPart), "pick %d nut;", goes(k, atMiddle[k]), takes(k, nut, middle))
		check(full, "put %d side;", goes(k, atSide[k]), leaves(k, leftPart, side))
		check(holding(w, k, nut), "put %d middle;", goes(k, atMiddle[k]), leaves(k, nut, middle))
		check(holding(full, 1-k, nut), "put %d side;", goes(k, atSide[k]), leaves(k, leftPart, side))
		check(full, "hand %d side;", goes(k, atSide[k]), leaves(k, leftPart, side), goes(k, c.Home[k]), goes(1-k, atSide[1-k]), takes(1-k, leftPart, side))
		check(w, "wait 0;", waits(0))
		check(w, "wait 1;", waits(1))
		check(w, "wait 2000;", waits(2000))
		check(w, "when middle nut { pick %d nut; }", goes(k, atMiddle[k]), takes(k, nut, middle))
		check(w, "when lower nut { pick %d nut; }")
		check(w, "both (1, 2, 3) (4, 5, 6);", both(api.Joints{1, 2, 3}, api.Joints{4, 5, 6}))
		check(w, "both (0, 9, 0) (18, -9, 0);", both(atMiddle[0], atMiddle[1]))
	}
}

// P13.1 (M2): each error of each kind for each arm, by itself; the At is that of the statement, and the steps before it remain.
func TestOneError(t *testing.T) {
	c := described(t, bench)
	for k := range 2 {
		w := cell.InitialState(c)
		full := holding(w, k, leftPart)
		check := func(w api.State, text string, err api.Errno) {
			t.Helper()
			checkFault(t, c, w, "! "+armed(text, k), err)
			checkFault(t, c, w, "wait 5; wait 3;  ! "+armed(text, k)+" wait 4;", err, waits(5), waits(3))
		}
		check(full, "pick %d nut;", api.ErrHeld)
		check(resting(w, nut, -1), "pick %d nut;", api.ErrMissing)
		check(holding(w, 1-k, nut), "pick %d nut;", api.ErrMissing)
		check(w, "pick %d left;", api.ErrUnreachable)
		check(resting(w, nut, left+1-k), "pick %d nut;", api.ErrUnreachable)
		check(w, "put %d side;", api.ErrEmptyHand)
		check(holding(w, 1-k, leftPart), "put %d side;", api.ErrEmptyHand)
		check(full, "put %d lower;", api.ErrOccupied)
		check(full, "put %d far;", api.ErrUnreachable)
		check(full, armed("put %d ", k)+c.Places[left+1-k].Name+";", api.ErrUnreachable)
		check(w, "hand %d side;", api.ErrEmptyHand)
		check(holding(full, 1-k, nut), "hand %d side;", api.ErrHeld)
		check(full, "hand %d lower;", api.ErrOccupied)
		check(full, "hand %d left;", api.ErrUnreachable)
		check(full, "hand %d right;", api.ErrUnreachable)
		check(full, "hand %d far;", api.ErrUnreachable)
	}
}

// P13.1 (M2), P2: several errors at once, of which the first one is returned.
func TestSeveralErrors(t *testing.T) {
	c := described(t, bench)
	for k := range 2 {
		home := cell.InitialState(c)
		full := holding(home, k, bolt)
		barred := c.Places[left+1-k].Name // the other arm reaches it
		for _, x := range []struct {
			also string
			w    api.State
			text string
			err  api.Errno
		}{
			{"the part that it holds itself is missing", full, "pick %d bolt;", api.ErrHeld},
			{"missing", resting(full, nut, -1), "pick %d nut;", api.ErrHeld},
			{"unreachable", full, "pick %d left;", api.ErrHeld},
			{"occupied", home, "put %d middle;", api.ErrEmptyHand},
			{"unreachable", home, "put %d " + barred + ";", api.ErrEmptyHand},
			{"occupied, unreachable", home, "put %d far;", api.ErrEmptyHand},
			{"unreachable", full, "put %d far;", api.ErrOccupied},
			{"unreachable", resting(full, nut, left+1-k), "put %d " + barred + ";", api.ErrOccupied},
			{"held", holding(home, 1-k, bolt), "hand %d side;", api.ErrEmptyHand},
			{"occupied", home, "hand %d middle;", api.ErrEmptyHand},
			{"unreachable", resting(home, leftPart, -1), "hand %d far;", api.ErrEmptyHand},
			{"held, occupied, unreachable", holding(home, 1-k, bolt), "hand %d far;", api.ErrEmptyHand},
			{"occupied", holding(full, 1-k, leftPart), "hand %d middle;", api.ErrHeld},
			{"unreachable", holding(full, 1-k, leftPart), "hand %d far;", api.ErrHeld},
			{"occupied, unreachable", holding(full, 1-k, nut), "hand %d far;", api.ErrHeld},
			{"unreachable", full, "hand %d far;", api.ErrOccupied},
			{"unreachable by arm 1", resting(full, nut, left), "hand %d left;", api.ErrOccupied},
			{"unreachable by arm 0", resting(full, nut, right), "hand %d right;", api.ErrOccupied},
		} {
			checkFault(t, c, x.w, "! "+armed(x.text, k), x.err)
			checkFault(t, c, x.w, "wait 7; when right left { } ! "+armed(x.text, k)+" put 0 far; pick 1 left;", x.err, waits(7))
		}
	}
}

// P13.1 (M2): all statements that take or leave a part, in all states of a small cell; each pair of errors occurs.
func TestOneStatementEverywhere(t *testing.T) {
	c := limited(limited(tray(t), 0, api.Joints{0, -9, 0}, api.Joints{9, 9, 13}), 1, api.Joints{13, -9, -13}, api.Joints{18, 9, 0})
	states := statesOf(c, [2][]api.Joints{{atMiddle[0], {2, 0, 4}, {5, -4, 0}}, {atMiddle[1], {13, 4, 0}, {16, 0, -4}}})
	count := map[string]int{}
	for _, w := range states {
		for n := range 2 * 10 {
			s := api.Stmt{Kind: []int{3, 3, 4, 4, 4, 4, 5, 5, 5, 5}[n/2], Arm: n % 2, At: n, Part: c.Parts[n/2%2].Name, Place: c.Places[(n/2+2)%4].Name}
			checkProgram(t, "one statement", c, []api.Stmt{s}, w)
			l := errorsOfStmt(c, w, s)
			for i, first := range l {
				for _, second := range l[i:] {
					count[fmt.Sprint(s.Kind, s.Arm, int(first), int(second))]++
				}
			}
			count[fmt.Sprint(s.Kind, s.Arm, len(l))]++
		}
	}
	for _, what := range []string{
		"3 %d 0", "3 %d 1", "3 %d 130 130", "3 %d 130 132", "3 %d 130 134", "3 %d 132 132", "3 %d 134 134",
		"4 %d 0", "4 %d 1", "4 %d 131 131", "4 %d 131 133", "4 %d 131 134", "4 %d 133 133", "4 %d 133 134", "4 %d 134 134",
		"5 %d 0", "5 %d 1", "5 %d 131 131", "5 %d 131 130", "5 %d 131 133", "5 %d 131 134", "5 %d 130 130", "5 %d 130 133", "5 %d 130 134", "5 %d 133 133", "5 %d 133 134", "5 %d 134 134",
	} {
		for k := range 2 {
			if n := count[fmt.Sprintf(what, k)]; n < 10 {
				t.Errorf("%s: %d", fmt.Sprintf(what, k), n)
			}
		}
	}
}

// P13.1 (M2): of the two solutions of a place, the one that is nearer to the arm's joint values, and of two at equal distances the first one; an arm that is already there stays.
func TestNearestSolution(t *testing.T) {
	c := described(t, bench)
	for _, x := range []struct {
		k         int
		from, to  api.Joints
		distances [2]int
	}{
		{0, api.Joints{0, 9, 0}, atMiddle[0], [2]int{0, 36}},
		{0, api.Joints{5, -9, 13}, otherAtMiddle[0], [2]int{36, 0}},
		{0, api.Joints{5, -3, 0}, atMiddle[0], [2]int{17, 19}},
		{0, api.Joints{5, -4, 0}, atMiddle[0], [2]int{18, 18}}, // (0, 9, 0) comes before (5, -9, 13)
		{0, api.Joints{5, -5, 0}, otherAtMiddle[0], [2]int{19, 17}},
		{0, api.Joints{1, 0, 8}, atMiddle[0], [2]int{18, 18}},
		{1, api.Joints{18, -9, 0}, atMiddle[1], [2]int{0, 36}},
		{1, api.Joints{13, 9, -13}, otherAtMiddle[1], [2]int{36, 0}},
		{1, api.Joints{13, 5, 0}, otherAtMiddle[1], [2]int{19, 17}},
		{1, api.Joints{13, 4, 0}, otherAtMiddle[1], [2]int{18, 18}}, // (13, 9, -13) comes before (18, -9, 0)
		{1, api.Joints{13, 3, 0}, atMiddle[1], [2]int{17, 19}},
	} {
		if apart(x.from, atMiddle[x.k]) != x.distances[0] || apart(x.from, otherAtMiddle[x.k]) != x.distances[1] {
			t.Fatal(x)
		}
		w := standing(cell.InitialState(c), x.k, x.from)
		free := resting(w, nut, -1)
		checkText(t, c, w, armed("pick %d nut;", x.k), goes(x.k, x.to), takes(x.k, nut, middle))
		checkText(t, c, holding(free, x.k, bolt), armed("put %d middle;", x.k), goes(x.k, x.to), leaves(x.k, bolt, middle))
		checkText(t, c, holding(free, x.k, bolt), armed("hand %d middle;", x.k),
			goes(x.k, x.to), leaves(x.k, bolt, middle), goes(x.k, x.from), goes(1-x.k, atMiddle[1-x.k]), takes(1-x.k, bolt, middle))
		checkText(t, c, holding(free, 1-x.k, bolt), armed("hand %D middle;", x.k),
			goes(1-x.k, atMiddle[1-x.k]), leaves(1-x.k, bolt, middle), goes(1-x.k, c.Home[1-x.k]), goes(x.k, x.to), takes(x.k, bolt, middle))
	}
}

// P13.1 (M2): statements are expanded in the state behind all steps before them: from there, the other solution is nearer.
func TestNearestSolutionLater(t *testing.T) {
	c := described(t, bench)
	w := standing(cell.InitialState(c), 0, atMiddle[0])
	q := api.Joints{5, -5, 0}
	checkText(t, c, w, "go 0 (5, -5, 0); pick 0 nut;", goes(0, q), goes(0, otherAtMiddle[0]), takes(0, nut, middle))
	checkText(t, c, w, "both (5, -5, 0) (0, 0, 0); pick 0 nut;", both(q, api.Joints{}), goes(0, otherAtMiddle[0]), takes(0, nut, middle))
	checkText(t, c, w, "go 1 (5, -5, 0); pick 0 nut;", goes(1, q), goes(0, atMiddle[0]), takes(0, nut, middle))
	checkText(t, c, standing(w, 0, q), "home 0; pick 0 nut;", goes(0, c.Home[0]), goes(0, atMiddle[0]), takes(0, nut, middle))
	checkText(t, c, standing(w, 0, q), "pick 0 nut; home 0; put 0 middle;",
		goes(0, otherAtMiddle[0]), takes(0, nut, middle), goes(0, c.Home[0]), goes(0, atMiddle[0]), leaves(0, nut, middle))
	checkText(t, c, standing(w, 0, q), "pick 0 nut; put 0 middle;", goes(0, otherAtMiddle[0]), takes(0, nut, middle), goes(0, otherAtMiddle[0]), leaves(0, nut, middle))
}

// P13.1 (M2): solutions that the joint limits bar are not chosen, although they are nearer.
func TestNearestSolutionWithinLimits(t *testing.T) {
	c := described(t, bench)
	c.Arms[0].Low[0] = 1
	w := standing(cell.InitialState(c), 0, api.Joints{1, 9, 0})
	checkText(t, c, w, "pick 0 nut;", goes(0, otherAtMiddle[0]), takes(0, nut, middle))
	c.Arms[0].High[2] = 12
	checkFault(t, c, w, "wait 1; ! pick 0 nut;", api.ErrUnreachable, waits(1))
	checkFault(t, c, holding(resting(w, nut, -1), 1, bolt), "wait 1; ! hand 1 middle;", api.ErrUnreachable, waits(1))
	checkText(t, c, w, "pick 1 nut;", goes(1, atMiddle[1]), takes(1, nut, middle))
}

// P13.1 (M2): Hand by each arm from different joint values: the first arm returns to where it was, and the other one stays where it took the part.
func TestHand(t *testing.T) {
	c := described(t, bench)
	for k := range 2 {
		other := 1 - k
		for _, from := range []api.Joints{{3, 4, 5}, c.Arms[k].Low, c.Arms[k].High, atSide[k], {9, 0, 0}} {
			for _, of := range []api.Joints{{-3, -4, -5}, c.Arms[other].High, atSide[other]} {
				w := standing(standing(holding(cell.InitialState(c), k, bolt), k, from), other, of)
				first := []api.Step{goes(k, atSide[k]), leaves(k, bolt, side), goes(k, from), goes(other, atSide[other]), takes(other, bolt, side)}
				checkText(t, c, w, armed("hand %d side;", k), first...)
				back := []api.Step{goes(other, atSide[other]), leaves(other, bolt, side), goes(other, atSide[other]), goes(k, atSide[k]), takes(k, bolt, side)}
				checkText(t, c, w, armed("hand %d side; hand %D side;", k), slices.Concat(first, back)...)
				checkFault(t, c, w, armed("hand %d side; ! hand %d side;", k), api.ErrEmptyHand, first...)
				checkFault(t, c, w, armed("hand %d side; ! hand %D left;", k), api.ErrUnreachable, first...)
			}
		}
	}
}

// P13.1 (M2): a When whose part is at its place, at another one, held by either arm or lost, and whose place is free or occupied by another part.
func TestWhen(t *testing.T) {
	c := described(t, bench)
	w := cell.InitialState(c)
	for _, x := range []struct {
		w       api.State
		text    string
		applies bool
	}{
		{w, "when middle nut { wait 3; }", true},
		{w, "when lower nut { wait 3; }", false},
		{w, "when far nut { wait 3; }", false},
		{w, "when middle bolt { wait 3; }", false},
		{w, "when lower bolt { wait 3; }", true},
		{w, "when far left { wait 3; }", true},
		{w, "when left left { wait 3; }", false},
		{resting(w, leftPart, left), "when left left { wait 3; }", true},
		{resting(w, nut, left), "when left left { wait 3; }", false},
		{resting(w, nut, side), "when side nut { wait 3; }", true},
		{resting(w, nut, -1), "when middle nut { wait 3; }", false},
		{holding(w, 0, nut), "when middle nut { wait 3; }", false},
		{holding(w, 1, nut), "when middle nut { wait 3; }", false},
		{standing(holding(w, 1, nut), 1, atMiddle[1]), "when middle nut { wait 3; }", false},
		{standing(w, 0, atMiddle[0]), "when middle nut { wait 3; }", true},
	} {
		var kid []api.Step
		if x.applies {
			kid = append(kid, waits(3))
		}
		checkText(t, c, x.w, x.text, kid...)
		checkText(t, c, x.w, "wait 2; "+x.text+" wait 4;", slices.Concat([]api.Step{waits(2)}, kid, []api.Step{waits(4)})...)
		if !x.applies {
			checkText(t, c, x.w, strings.Replace(x.text, "wait 3;", "put 0 far; pick 1 left; hand 0 far;", 1))
		}
	}
}

// P13.1 (M2): Kids that change whether later Whens, inside and behind their own one, apply; their own one goes on.
func TestWhensThatChange(t *testing.T) {
	c := described(t, bench)
	w := cell.InitialState(c)
	pick := []api.Step{goes(0, atMiddle[0]), takes(0, nut, middle)}
	put := []api.Step{goes(0, atSide[0]), leaves(0, nut, side)}
	checkText(t, c, w, "when middle nut { pick 0 nut; wait 1; } when middle nut { wait 2; }", slices.Concat(pick, []api.Step{waits(1)})...)
	checkText(t, c, w, "when middle nut { pick 0 nut; when middle nut { wait 1; } wait 2; } wait 3;", slices.Concat(pick, []api.Step{waits(2), waits(3)})...)
	checkText(t, c, w, "when middle nut { pick 0 nut; put 0 side; } when side nut { wait 1; }", slices.Concat(pick, put, []api.Step{waits(1)})...)
	checkText(t, c, w, "when side nut { wait 9; } when middle nut { pick 0 nut; put 0 side; when side nut { wait 1; } when middle nut { wait 8; } } when side nut { wait 2; }",
		slices.Concat(pick, put, []api.Step{waits(1), waits(2)})...)
	checkText(t, c, w, "pick 0 nut; when middle nut { wait 1; } put 0 side; when middle nut { wait 2; } when side nut { wait 3; }", slices.Concat(pick, put, []api.Step{waits(3)})...)
	checkText(t, c, holding(w, 0, bolt), "hand 0 side; when side bolt { wait 1; } put 1 side; when side bolt { wait 2; }",
		goes(0, atSide[0]), leaves(0, bolt, side), goes(0, c.Home[0]), goes(1, atSide[1]), takes(1, bolt, side), goes(1, atSide[1]), leaves(1, bolt, side), waits(2))
}

// P13.1 (M2): Whens that are nested four levels deep, all of which apply, and one of which does not.
func TestNestedWhens(t *testing.T) {
	c := described(t, bench)
	w := cell.InitialState(c)
	const text = "when middle nut { wait 1; when lower bolt { wait 2; when far left { wait 3; when middle nut { wait 4; go 1 (1, 2, 3); wait 5; } wait 6; } wait 7; } wait 8; } wait 9;"
	inner := []api.Step{waits(4), goes(1, api.Joints{1, 2, 3}), waits(5)}
	checkText(t, c, w, text, slices.Concat([]api.Step{waits(1), waits(2), waits(3)}, inner, []api.Step{waits(6), waits(7), waits(8), waits(9)})...)
	checkText(t, c, resting(w, nut, -1), text, waits(9))
	checkText(t, c, resting(w, bolt, -1), text, waits(1), waits(8), waits(9))
	checkText(t, c, resting(w, leftPart, -1), text, waits(1), waits(2), waits(7), waits(8), waits(9))
	checkText(t, c, w, strings.Replace(text, "nut { wait 4;", "bolt { wait 4;", 1), waits(1), waits(2), waits(3), waits(6), waits(7), waits(8), waits(9))
}

// P13.1 (M2): errors of the first, a middle and the last one of the Kids, in one When and in four: the diagnostic is that of the innermost statement, and the steps before it, outside and inside of Whens, remain.
func TestErrorsInWhens(t *testing.T) {
	c := described(t, bench)
	w := cell.InitialState(c)
	checkFault(t, c, w, "wait 1; when middle nut { ! put 0 side; wait 2; wait 3; } wait 4;", api.ErrEmptyHand, waits(1))
	checkFault(t, c, w, "wait 1; when middle nut { wait 2; ! put 0 side; wait 3; } wait 4;", api.ErrEmptyHand, waits(1), waits(2))
	checkFault(t, c, w, "wait 1; when middle nut { wait 2; wait 3; ! put 0 side; } wait 4;", api.ErrEmptyHand, waits(1), waits(2), waits(3))
	checkFault(t, c, w, "when middle nut { ! pick 1 left; } pick 1 left;", api.ErrUnreachable)
	checkFault(t, c, w, "when middle nut { wait 2; } ! put 0 side; when middle nut { wait 3; }", api.ErrEmptyHand, waits(2))
	checkFault(t, c, w, "when middle nut { when lower bolt { wait 1; } ! put 0 side; }", api.ErrEmptyHand, waits(1))
	const text = "wait 1; when middle nut { wait 2; when lower bolt { wait 3; when far left { wait 4; when middle nut { A wait 5; B wait 6; C } wait 7; } wait 8; } wait 9; } wait 10;"
	before := []api.Step{waits(1), waits(2), waits(3), waits(4)}
	with := func(mark string) string {
		return strings.NewReplacer(mark, "! put 1 side;", "A ", "", "B ", "", "C ", "").Replace(text)
	}
	checkFault(t, c, w, with("A"), api.ErrEmptyHand, before...)
	checkFault(t, c, w, with("B"), api.ErrEmptyHand, slices.Concat(before, []api.Step{waits(5)})...)
	checkFault(t, c, w, with("C"), api.ErrEmptyHand, slices.Concat(before, []api.Step{waits(5), waits(6)})...)
	checkFault(t, c, w, "when middle nut { pick 0 nut; when lower bolt { ! pick 0 bolt; } }", api.ErrHeld, goes(0, atMiddle[0]), takes(0, nut, middle))
}

// P13.1 (M2): the Kids of statements that are no Whens are ignored, whatever they are.
func TestKidsOfOtherStatements(t *testing.T) {
	c := described(t, bench)
	endless := []api.Stmt{{Kind: api.Wait, N: 1}}
	endless[0].Kids = endless
	inWhen := []api.Stmt{{Kind: api.When, Place: "middle", Part: "nut"}}
	inWhen[0].Kids = inWhen
	for _, kids := range [][]api.Stmt{
		statements(t, "wait 1; pick 0 nut;"), statements(t, "put 0 far; when middle nut { wait 3; }"), endless, inWhen,
		{{}}, {{Kind: 9, Arm: -3, At: -1}}, {{Kind: api.When, Part: "nothing", Place: "nowhere"}}, {{Kind: api.Go, To: [2]api.Joints{{99}}}}, make([]api.Stmt, 1000),
	} {
		l := statements(t, "go 0 (1, 2, 3); home 0; pick 0 nut; put 0 side; pick 0 nut; hand 0 middle; wait 3; both (1, 2, 3) (4, 5, 6); when lower bolt { home 1; }")
		want, d := expand.Steps(c, l, cell.InitialState(c))
		if len(want) != 16 || d != none {
			t.Fatal(want, d)
		}
		for i := range l {
			if l[i].Kind != api.When {
				l[i].Kids = kids
			}
		}
		l[len(l)-1].Kids[0].Kids = kids
		checkSteps(t, "Kids", c, l, cell.InitialState(c), none, want...)
		l[3].Place = "far"
		checkSteps(t, "Kids and an error", c, l, cell.InitialState(c), api.Diagnostic{Err: api.ErrOccupied, At: l[3].At}, want[:4]...)
	}
}

// P13.1 (M2): the fields of steps that their kind does not mention are zero, whatever those of the statement are.
func TestZeroFields(t *testing.T) {
	c := described(t, bench)
	for k := range 2 {
		w := cell.InitialState(c)
		to := [2]api.Joints{{1, 2, 3}, {4, 5, 6}}
		check := func(w api.State, s api.Stmt, want ...api.Step) {
			t.Helper()
			s.Arm, s.At = k, 77
			checkSteps(t, "fields", c, []api.Stmt{s}, w, none, want...)
		}
		full := holding(w, k, bolt)
		odd := to
		odd[1-k] = api.Joints{-99, 19, math.MaxInt}
		check(w, api.Stmt{Kind: api.Go, Part: "bolt", Place: "lower", N: 5, To: to}, goes(k, to[k]))
		check(w, api.Stmt{Kind: api.Go, Part: "?", Place: "?", N: -5, To: odd}, goes(k, to[k]))
		check(w, api.Stmt{Kind: api.Home, Part: "bolt", Place: "lower", N: 5, To: to}, goes(k, c.Home[k]))
		check(w, api.Stmt{Kind: api.Home, Part: "?", Place: "?", N: -5, To: odd}, goes(k, c.Home[k]))
		check(w, api.Stmt{Kind: api.Pick, Part: "bolt", Place: "side", N: 5, To: to}, goes(k, atLower[k]), takes(k, bolt, lower))
		check(w, api.Stmt{Kind: api.Pick, Part: "bolt", Place: "?", N: -5, To: odd}, goes(k, atLower[k]), takes(k, bolt, lower))
		check(full, api.Stmt{Kind: api.Put, Part: "nut", Place: "side", N: 5, To: to}, goes(k, atSide[k]), leaves(k, bolt, side))
		check(full, api.Stmt{Kind: api.Put, Part: "?", Place: "side", N: -5, To: odd}, goes(k, atSide[k]), leaves(k, bolt, side))
		hand := []api.Step{goes(k, atSide[k]), leaves(k, bolt, side), goes(k, c.Home[k]), goes(1-k, atSide[1-k]), takes(1-k, bolt, side)}
		check(full, api.Stmt{Kind: api.Hand, Part: "nut", Place: "side", N: 5, To: to}, hand...)
		check(full, api.Stmt{Kind: api.Hand, Part: "?", Place: "side", N: -5, To: odd}, hand...)
		check(w, api.Stmt{Kind: api.Wait, Part: "bolt", Place: "lower", N: 5, To: to}, waits(5))
		check(w, api.Stmt{Kind: api.Wait, Part: "?", Place: "?", N: 5, To: odd}, waits(5))
		check(w, api.Stmt{Kind: api.When, Part: "bolt", Place: "lower", N: -5, To: odd})
		check(w, api.Stmt{Kind: api.Both, Part: "bolt", Place: "lower", N: 5, To: to}, both(to[0], to[1]))
		check(w, api.Stmt{Kind: api.Both, Part: "?", Place: "?", N: -5, To: to}, both(to[0], to[1]))
	}
}

// P13.1 (M2): offsets are those of the statements, whatever they are.
func TestOffsets(t *testing.T) {
	c := described(t, bench)
	w := cell.InitialState(c)
	for _, at := range []int{0, 1, 77, 1<<31 - 1, 1 << 32, 1 << 40} {
		put := api.Stmt{Kind: api.Put, Place: "side", At: at}
		d := api.Diagnostic{Err: api.ErrEmptyHand, At: at}
		checkSteps(t, "alone", c, []api.Stmt{put, put}, w, d)
		for _, outer := range []int{0, at, 1 << 40} {
			wait := api.Stmt{Kind: api.Wait, N: 2, At: outer}
			checkSteps(t, "behind another one", c, []api.Stmt{wait, put, wait}, w, d, waits(2))
			when := api.Stmt{Kind: api.When, Place: "middle", Part: "nut", At: outer, Kids: []api.Stmt{wait, put, wait}}
			checkSteps(t, "in a When", c, []api.Stmt{when, wait}, w, d, waits(2))
		}
	}
}

// filling returns a text of at most 62 statements with n steps, for a state in which arm 0 holds bolt and side is free, and the arm that holds bolt behind them.
func filling(n int) (string, int) {
	var text strings.Builder
	holder := 0
	for range n / 5 {
		fmt.Fprintf(&text, "hand %d side; ", holder)
		holder = 1 - holder
	}
	if n%5 == 4 {
		fmt.Fprintf(&text, "put %d side; pick %d bolt; ", holder, holder)
		return text.String(), holder
	}
	text.WriteString(strings.Repeat("wait 6; ", n%5))
	return text.String(), holder
}

// nested returns a text whose statements are in depth Whens that apply.
func nested(text string, depth int) string {
	return strings.Repeat("when far left { ", depth) + text + strings.Repeat(" }", depth)
}

// P13.1 (M2): results of 294 to 305 steps whose last statement has one, two or five steps, outside and inside of Whens; those beyond 300 have the error ErrBig at the last statement.
func TestLongResults(t *testing.T) {
	c := quick(t)
	w := holding(cell.InitialState(c), 0, bolt)
	count := map[int]int{}
	for n := 293; n <= 300; n++ {
		before, k := filling(n)
		first, d := expand.Steps(c, statements(t, before), w)
		if len(first) != n || d != none {
			t.Fatalf("%d steps: %v", len(first), d)
		}
		behind := executed(t, c, first, w)
		room := 64 - 1 - len(statements(t, before))
		for depth := range min(room, 4) + 1 {
			for _, text := range []string{"go %d (13, 5, 6);", "home %D;", "wait 0;", "both (1, 2, 3) (14, 5, -6);", "pick %D nut;", "put %d side;", "hand %d side;"} {
				text = armed(text, k)
				last, _, _ := answerTo(c, statements(t, text), behind)
				count[n+len(last)]++
				if n+len(last) <= 300 {
					checkText(t, c, w, before+nested(text, depth), slices.Concat(first, last)...)
				} else {
					checkFault(t, c, w, before+nested("! "+text, depth), api.ErrBig, first...)
				}
			}
		}
	}
	for _, n := range []int{299, 300, 301, 302, 305} {
		if count[n] < 3 {
			t.Errorf("%d results of %d steps", count[n], n)
		}
	}
}

// executed is the state behind steps without errors.
func executed(t *testing.T, c api.Cell, l []api.Step, w api.State) api.State {
	t.Helper()
	for _, s := range l {
		after, err := expand.Apply(c, w, s)
		if err != api.OK || !isState(c, after) {
			t.Fatalf("Apply of %v in %v = %v, %v", s, w, after, err)
		}
		w = after
	}
	return w
}

// P13.1 (M2): statements of Whens that make a result too long: those before them remain, and the Whens themselves have no error.
func TestLongResultsInWhens(t *testing.T) {
	c := quick(t)
	w := holding(cell.InitialState(c), 0, bolt)
	fault := func(n int, text string, more ...api.Step) {
		t.Helper()
		before, k := filling(n)
		first, _ := expand.Steps(c, statements(t, before), w)
		checkFault(t, c, w, before+armed(text, k), api.ErrBig, slices.Concat(first, more)...)
	}
	fault(296, "when middle nut { wait 1; wait 2; ! hand %d side; }", waits(1), waits(2))
	fault(295, "when middle nut { wait 1; wait 2; ! hand %d side; wait 3; }", waits(1), waits(2))
	fault(296, "when middle nut { wait 1; wait 2; } ! hand %d side;", waits(1), waits(2))
	fault(297, "when middle nut { ! hand %d side; wait 1; }")
	fault(299, "when middle nut { ! pick %D nut; wait 1; }")
	fault(300, "when middle nut { ! wait 1; wait 2; }")
	fault(299, "when middle nut { wait 1; ! wait 2; }", waits(1))
	full, _ := filling(300)
	first, _ := expand.Steps(c, statements(t, full), w)
	checkText(t, c, w, full+"when middle nut { } when lower nut { wait 1; put 0 far; }", first...)
	checkText(t, c, w, full+"when middle nut { when lower nut { hand 0 far; } when far left { } }", first...)
	checkFault(t, c, w, full+"when middle nut { ! wait 1; } wait 2;", api.ErrBig, first...)
	checkFault(t, c, w, full+"when middle nut { } ! wait 2;", api.ErrBig, first...)
}

// P13.1 (M2), P2: other errors of a statement come before ErrBig.
func TestLongResultsWithOtherErrors(t *testing.T) {
	c := quick(t)
	w := holding(cell.InitialState(c), 0, bolt)
	for n := 296; n <= 300; n++ {
		before, k := filling(n)
		first, _ := expand.Steps(c, statements(t, before), w)
		for text, err := range map[string]api.Errno{
			"pick %d nut;": api.ErrHeld, "pick %D bolt;": api.ErrMissing, "pick %D left;": api.ErrUnreachable,
			"put %D side;": api.ErrEmptyHand, "put %d middle;": api.ErrOccupied, "put %d far;": api.ErrOccupied, "put %d " + c.Places[left+1-k].Name + ";": api.ErrUnreachable,
			"hand %D side;": api.ErrEmptyHand, "hand %d middle;": api.ErrOccupied, "hand %d left;": api.ErrUnreachable, "hand %d right;": api.ErrUnreachable,
		} {
			for depth := range 2 {
				checkFault(t, c, w, before+nested("! "+armed(text, k), depth), err, first...)
			}
		}
	}
	before, k := filling(297)
	first, _ := expand.Steps(c, statements(t, before), w)
	checkFault(t, c, w, before+armed("pick %D nut; ! hand %d side;", k), api.ErrHeld, slices.Concat(first, []api.Step{goes(1-k, atMiddle[1-k]), takes(1-k, nut, middle)})...)
}

// P13.1 (M2): as many statements as there may be, in one list and as deeply nested as they may be.
func TestLargestPrograms(t *testing.T) {
	c := quick(t)
	w := cell.InitialState(c)
	var flat []api.Stmt
	var want []api.Step
	for n := range 64 {
		flat, want = append(flat, api.Stmt{Kind: api.Wait, N: n, At: 9 * n}), append(want, waits(n))
	}
	checkSteps(t, "64 statements", c, flat, w, none, want...)
	deep := flat[4:]
	for range 4 {
		deep = []api.Stmt{{Kind: api.When, Place: "middle", Part: "nut", Kids: deep}}
	}
	checkSteps(t, "64 statements in four Whens", c, deep, w, none, want[4:]...)
	before, _ := filling(295)
	checkProgram(t, "300 steps in four Whens", c, statements(t, before+nested("hand 1 side;", 4)), holding(w, 0, bolt))
}

// P13.1 (M2): names of parts and places that are equal or differ in little, in a cell with as many as there may be.
func TestNames(t *testing.T) {
	c := bare(described(t, bench))
	x := poseOf(c.Arms[0], atMiddle[0])
	for i := range 16 {
		c.Places = append(c.Places, api.Place{Name: names[i], At: x.at, Dir: x.d})
	}
	for i := range 8 {
		shape := api.Polygon{{X: -1, Y: -1}, {X: 1, Y: -1}, {X: 0, Y: 1}}
		c.Parts = append(c.Parts, api.Part{Name: names[15-i], Place: 4 + i, Shape: shape})
	}
	w := cell.InitialState(c)
	for part := range 8 {
		checkText(t, c, w, "pick 1 "+c.Parts[part].Name+";", goes(1, atMiddle[1]), takes(1, part, 4+part))
		for place := range 16 {
			var want []api.Step
			if place == 4+part {
				want = append(want, waits(1))
			}
			checkText(t, c, w, "when "+c.Places[place].Name+" "+c.Parts[part].Name+" { wait 1; }", want...)
			full, text := holding(w, 0, part), "put 0 "+c.Places[place].Name+";"
			if place < 4 || place > 11 || place == 4+part {
				checkText(t, c, full, text, goes(0, atMiddle[0]), leaves(0, part, place))
			} else {
				checkFault(t, c, full, "! "+text, api.ErrOccupied)
			}
		}
	}
}

// located are the innermost statements with an offset, in depth Whens, each with its kind and the number of Whens around it.
func located(l []api.Stmt, at, depth int) [][2]int {
	var all [][2]int
	for _, s := range l {
		if s.At == at {
			all = append(all, [2]int{s.Kind, depth})
		}
		if s.Kind == api.When {
			all = append(all, located(s.Kids, at, depth+1)...)
		}
	}
	return all
}

// checkCounts checks that each case occurs at least five times.
func checkCounts(t *testing.T, count map[string]int, cases ...string) {
	t.Helper()
	for _, what := range cases {
		if count[what] < 5 {
			t.Errorf("%s: %d", what, count[what])
		}
	}
}

// P13.1 (M2): random programs in random states of random cells; all kinds of statements have all their errors.
func TestRandomPrograms(t *testing.T) {
	r := rand.New(rand.NewSource(131))
	stations := stations(t)
	count := map[string]int{}
	for range 3000 {
		c := drawCell(r, stations)
		w := drawState(r, c)
		l := drawProgram(r, c, w, 64)
		checkProgram(t, "a random program", c, l, w)
		steps, d, _ := answerTo(c, l, w)
		for _, s := range steps {
			count[fmt.Sprint("step ", s.Kind)]++
		}
		if d == none {
			count["accepted"]++
			continue
		}
		for _, x := range located(l, d.At, 0) {
			count[fmt.Sprint(x[0], int(d.Err))]++
			count[fmt.Sprint("depth ", x[1])]++
		}
	}
	checkCounts(t, count, "accepted", "step 1", "step 2", "step 3", "step 4", "step 5",
		"3 130", "3 132", "3 134", "4 131", "4 133", "4 134", "5 130", "5 131", "5 133", "5 134", "depth 0", "depth 1", "depth 2", "depth 3", "depth 4")
}

// P13.1 (M2): random programs with so many steps that the error ErrBig occurs.
func TestRandomLongPrograms(t *testing.T) {
	r := rand.New(rand.NewSource(1312))
	stations := []api.Cell{bare(quick(t))}
	count := map[string]int{}
	for range 600 {
		c := drawCell(r, stations)
		w := drawState(r, c)
		l := drawHands(r, c, w)
		checkProgram(t, "a long program", c, l, w)
		steps, d, _ := answerTo(c, l, w)
		count[fmt.Sprint("length ", len(steps)/100)]++
		for _, x := range located(l, d.At, 0) {
			count[fmt.Sprint(x[0], int(d.Err))]++
		}
	}
	checkCounts(t, count, "length 0", "length 1", "length 2", "length 3", "5 2")
}

// P13.2, P13.3: the steps of an expansion are executed without errors, all states are valid, and each part is at one place, held once, or lost all the time.
func TestExecutability(t *testing.T) {
	r := rand.New(rand.NewSource(132))
	stations := stations(t)
	executions := 0
	for range 600 {
		c := drawCell(r, stations)
		w := drawState(r, c)
		steps, _ := expand.Steps(c, drawProgram(r, c, w, 64), w)
		lost := lostParts(w)
		for _, s := range steps {
			w = executed(t, c, []api.Step{s}, w)
			executions++
			if !slices.Equal(lostParts(w), lost) {
				t.Fatalf("%v are lost behind %v, not %v", lostParts(w), s, lost)
			}
		}
	}
	if executions < 10000 {
		t.Errorf("%d steps", executions)
	}
}

// P13.4: expanding two programs at once is expanding the first one and then the second one behind it, wherever a program is divided.
func TestComposition(t *testing.T) {
	r := rand.New(rand.NewSource(134))
	stations := stations(t)
	count := map[bool]int{}
	for range 1000 {
		c := drawCell(r, stations)
		w := drawState(r, c)
		l := drawProgram(r, c, w, 40)
		whole, d := expand.Steps(c, l, w)
		for i := range len(l) + 1 {
			first, e := expand.Steps(c, l[:i], w)
			if e != none {
				// The expansion has ended in the first program.
				checkSteps(t, "the whole", c, l, w, e, first...)
				continue
			}
			second, f := expand.Steps(c, l[i:], executed(t, c, first, w))
			if len(first)+len(second) > 300 || d.Err == api.ErrBig {
				continue
			}
			if !slices.Equal(whole, slices.Concat(first, second)) || d != f {
				t.Fatalf("%v and %v are expanded to %v, %v, but at once to %v, %v", l[:i], l[i:], slices.Concat(first, second), f, whole, d)
			}
			count[d == none]++
		}
	}
	if count[true] < 1000 || count[false] < 300 {
		t.Errorf("%v", count)
	}
}

// P13.4: concatenations that are written out, the first program with and without an error.
func TestCompositionExamples(t *testing.T) {
	c := described(t, bench)
	w := cell.InitialState(c)
	first, second := statements(t, "pick 0 nut; put 0 side;"), statements(t, "when side nut { pick 1 nut; } home 0;")
	l := []api.Step{goes(0, atMiddle[0]), takes(0, nut, middle), goes(0, atSide[0]), leaves(0, nut, side)}
	m := []api.Step{goes(1, atSide[1]), takes(1, nut, side), goes(0, c.Home[0])}
	checkSteps(t, "first", c, first, w, none, l...)
	checkSteps(t, "second", c, second, executed(t, c, l, w), none, m...)
	checkSteps(t, "second alone", c, second, w, none, m[2])
	checkSteps(t, "both", c, slices.Concat(first, second), w, none, slices.Concat(l, m)...)
	wrong := statements(t, "wait 4; pick 1 left; wait 5;")
	checkSteps(t, "an error in the first one", c, slices.Concat(wrong, second), w, api.Diagnostic{Err: api.ErrUnreachable, At: 8}, waits(4))
	checkSteps(t, "an error in the second one", c, slices.Concat(first, wrong), w, api.Diagnostic{Err: api.ErrUnreachable, At: 8}, append(l, waits(4))...)
}

// P3: Steps changes neither its arguments nor the memory behind them, and returns memory of its own.
func TestStepsMemory(t *testing.T) {
	stations := stations(t)
	for seed := range int64(150) {
		draw := func() (api.Cell, []api.Stmt, api.State) {
			r := rand.New(rand.NewSource(seed))
			c := drawCell(r, stations)
			w := drawState(r, c)
			return c, drawProgram(r, c, w, 40), w
		}
		c, l, w := draw()
		sameC, sameL, sameW := draw()
		memory := append(slices.Clone(w.Where), 77, 78)
		w.Where = memory[:len(w.Where)]
		want, d, _ := answerTo(sameC, sameL, sameW)
		first, _ := expand.Steps(c, l, w)
		second, _ := expand.Steps(c, l, w)
		for i := range first {
			first[i] = api.Step{Kind: -1}
		}
		_ = append(first, api.Step{Kind: -1})
		if !slices.Equal(second, want) {
			t.Errorf("a change of one result changes another one to %v", second)
		}
		checkSteps(t, "behind a change of an earlier result", c, l, w, d, want...)
		if !reflect.DeepEqual(c, sameC) || !reflect.DeepEqual(l, sameL) || !same(w, sameW) || !slices.Equal(memory[len(memory)-2:], []int{77, 78}) {
			t.Errorf("Steps changes %v, %v or %v", sameC, sameL, sameW)
		}
	}
}

// P3: calls at the same time do not affect each other.
func TestStepsConcurrently(t *testing.T) {
	r := rand.New(rand.NewSource(33))
	stations := stations(t)
	type call struct {
		c    api.Cell
		l    []api.Stmt
		w    api.State
		want []api.Step
		d    api.Diagnostic
	}
	var calls []call
	for range 30 {
		c := drawCell(r, stations)
		w := drawState(r, c)
		l := drawProgram(r, c, w, 64)
		want, d, _ := answerTo(c, l, w)
		calls = append(calls, call{c, l, w, want, d})
	}
	var group sync.WaitGroup
	for i := range 8 {
		group.Go(func() {
			for n := range calls {
				x := calls[(n+5*i)%len(calls)]
				if got, d := expand.Steps(x.c, x.l, x.w); !slices.Equal(got, x.want) || d != x.d {
					t.Errorf("Steps at the same time as others = %v, %v, want %v, %v", got, d, x.want, x.d)
				}
			}
		})
	}
	group.Wait()
}

// P1: every call of Steps returns, also for cells, states and programs that are not valid.
func TestEverySteps(t *testing.T) {
	numbers := []int{math.MinInt, -18, -1, 0, 1, 2, 19, 1000, math.MaxInt}
	full := described(t, bench)
	for _, n := range numbers {
		c := limited(limited(full, 0, api.Joints{0, 8, 0}, api.Joints{1, 9, 1}), 1, api.Joints{0, n, n}, api.Joints{n, n, n})
		c.Arms[1].Lens, c.Arms[1].Wide = [3]int{n, n, n}, n
		c.Places = append(slices.Clone(c.Places), api.Place{Name: "odd", At: api.Point{X: n, Y: -n}, Dir: api.Direction{X: n, Y: n, N: n}})
		q := [2]api.Joints{{n, n, n}, {-n, 0, n}}
		for _, m := range numbers {
			for _, where := range [][]int{nil, {m}, {middle, n, 7}, {middle, lower, far, 0}} {
				w := api.State{Q: q, Held: [2]int{m, -1}, Where: where}
				for kind := range 11 {
					for _, name := range []string{"nut", "middle", "odd"} {
						s := api.Stmt{Kind: kind - 1, Arm: m, Part: name, Place: name, N: n, To: q, At: m, Kids: []api.Stmt{{Kind: kind, N: m}}}
						t := s
						t.Arm, t.Part, t.Place = kind%2, "nut", "middle"
						expand.Steps(c, []api.Stmt{s}, w)
						expand.Steps(c, []api.Stmt{t, t, s}, w)
						expand.Steps(api.Cell{}, []api.Stmt{t}, w)
					}
				}
			}
		}
	}
}

// P1: programs that contain themselves, and the longest ones with no steps.
func TestEndlessPrograms(t *testing.T) {
	c := described(t, bench)
	w := cell.InitialState(c)
	endless := []api.Stmt{{Kind: api.Wait, N: 1}, {Kind: api.When, Place: "middle", Part: "nut"}, {Kind: api.When, Place: "middle", Part: "nut"}}
	endless[1].Kids, endless[2].Kids = endless, endless
	expand.Steps(c, endless, w)
	expand.Steps(c, endless[1:], w)
	expand.Steps(c, slices.Repeat(endless[1:], 500), w)
	expand.Steps(c, make([]api.Stmt, 100000), w)
	expand.Steps(c, slices.Repeat([]api.Stmt{{Kind: api.When, Place: "middle", Part: "nut"}}, 100000), w)
}
