package jointmove_test

import (
	"fmt"
	"math"
	"math/rand"
	"reflect"
	"slices"
	"testing"

	"ambidexter/api"
	"ambidexter/cell"
	"ambidexter/collision"
	"ambidexter/intersect"
	"ambidexter/jointmove"
)

// samePairs reports whether two lists of pairs are equal.
func samePairs(a, b []api.BodyPair) bool {
	return slices.EqualFunc(a, b, func(p, q api.BodyPair) bool { return reflect.DeepEqual(p, q) })
}

// sameState reports whether two states are equal.
func sameState(a, b api.State) bool {
	return a.Q == b.Q && a.Held == b.Held && slices.Equal(a.Where, b.Where)
}

// checkMove compares all functions with O1 to O4, checks P15.2 to P15.4, and returns whether the move is free.
func checkMove(t *testing.T, what string, c api.Cell, w api.State, m api.Move) bool {
	t.Helper()
	checkScene(t, what, c, w)
	free := checkFunctions(t, what, c, w, m)
	if _, valid := nextOf(c, w, m); valid {
		checkSoundness(t, what, c, w, m)
		checkReversibility(t, what, c, w, m)
		checkWitnesses(t, what, c, w, m)
	}
	return free
}

// checkFunctions compares all functions with O1 to O4 and returns whether the move is free.
func checkFunctions(t *testing.T, what string, c api.Cell, w api.State, m api.Move) bool {
	t.Helper()
	what = fmt.Sprintf("%s: %v in %v", what, m, w)
	next, valid := nextOf(c, w, m)
	if got, ok := jointmove.Next(c, w, m); ok != valid || !sameState(got, next) {
		t.Errorf("%s: Next = %v, %v, want %v, %v", what, got, ok, next, valid)
	}
	pairs := pairsOf(c, w, m)
	if got := jointmove.SweptPairs(c, w, m); !samePairs(got, pairs) {
		t.Errorf("%s: SweptPairs = %v, want %v", what, got, pairs)
	}
	all := checksOf(pairs)
	l, free := separatorsOf(all)
	free = free && valid
	if got := jointmove.IsFree(c, w, m); got != free {
		t.Errorf("%s: IsFree = %v", what, got)
	}
	if got, ok := jointmove.Certificate(c, w, m); ok != free || !slices.Equal(got, l) {
		t.Errorf("%s: Certificate = %v, %v, want %v, %v", what, got, ok, l, free)
	}
	o, blocked := obstructionOf(all, m)
	if got, ok := jointmove.FindObstruction(c, w, m); ok != blocked || got != o {
		t.Errorf("%s: FindObstruction = %v, %v, want %v, %v", what, got, ok, o, blocked)
	}
	return free
}

// areas are the areas of all bodies of a state, by their labels.
func areas(c api.Cell, w api.State) map[string]api.Polygon {
	l := map[string]api.Polygon{}
	for _, b := range collision.Bodies(c, w) {
		l[label(b)] = b.Area
	}
	return l
}

// checkSoundness checks P15.2 for a valid move.
func checkSoundness(t *testing.T, what string, c api.Cell, w api.State, m api.Move) {
	t.Helper()
	next, _ := jointmove.Next(c, w, m)
	if jointmove.IsFree(c, w, m) && collision.IsFree(c, w) && !collision.IsFree(c, next) {
		t.Errorf("%s: %v leads from %v to collisions", what, m, w)
	}
	before, after := areas(c, w), areas(c, next)
	for _, p := range jointmove.SweptPairs(c, w, m) {
		for _, b := range []api.Body{p.A, p.B} {
			corners := slices.Concat(before[label(b)], after[label(b)])
			isOutside := func(x api.Point) bool { return !isInConvex(b.Area, x) }
			if isMoved(b, m) && slices.ContainsFunc(corners, isOutside) {
				t.Errorf("%s: the region of %s for %v in %v does not contain it", what, label(b), m, w)
			}
		}
	}
}

// opposite is the move that undoes m.
func opposite(m api.Move) api.Move { return api.Move{Arm: m.Arm, Joint: m.Joint, By: -m.By} }

// checkReversibility checks P15.3 for a valid move.
func checkReversibility(t *testing.T, what string, c api.Cell, w api.State, m api.Move) {
	t.Helper()
	next, _ := jointmove.Next(c, w, m)
	back, ok := jointmove.Next(c, next, opposite(m))
	if !ok || !sameState(back, w) {
		t.Errorf("%s: %v in %v is undone to %v, %v", what, m, w, back, ok)
	}
	if jointmove.IsFree(c, w, m) != jointmove.IsFree(c, next, opposite(m)) {
		t.Errorf("%s: %v in %v is free, or the opposite move, but not both", what, m, w)
	}
	if !samePairs(jointmove.SweptPairs(c, w, m), jointmove.SweptPairs(c, next, opposite(m))) {
		t.Errorf("%s: %v in %v does not have the pairs of the opposite move", what, m, w)
	}
}

// checkWitnesses checks P15.4 for a valid move.
func checkWitnesses(t *testing.T, what string, c api.Cell, w api.State, m api.Move) {
	t.Helper()
	all := checksOf(jointmove.SweptPairs(c, w, m))
	free := jointmove.IsFree(c, w, m)
	l, ok := jointmove.Certificate(c, w, m)
	if ok != free || free && len(l) != len(all) {
		t.Errorf("%s: %d separators for %d checks of %v in %v, which is free: %v", what, len(l), len(all), m, w, free)
		return
	}
	for i, s := range l {
		if !intersect.IsSeparating(all[i].first, all[i].second, s) {
			t.Errorf("%s: separator %d of %v in %v, %v, does not hold", what, i, m, w, s)
		}
	}
	o, ok := jointmove.FindObstruction(c, w, m)
	if ok == free {
		t.Errorf("%s: the obstruction of %v in %v, which is free: %v, is %v, %v", what, m, w, free, o, ok)
	}
	isReported := func(k check) bool { return k.pair == o.Pair && k.a == o.A && k.b == o.B }
	if i := slices.IndexFunc(all, isReported); ok && (i < 0 || !intersect.IsContact(all[i].first, all[i].second, o.Touch)) {
		t.Errorf("%s: the obstruction of %v in %v, %v, does not hold", what, m, w, o)
	}
}

// moves are all moves of joints by one step.
func moves() []api.Move {
	var l []api.Move
	for n := range 12 {
		l = append(l, api.Move{Arm: n / 6, Joint: n / 2 % 3, By: 2*(n%2) - 1})
	}
	return l
}

// P15.1 (O1): the successor states of all moves in one state.
func TestNext(t *testing.T) {
	c := part(part(yard(), poly(0, 0, 1, 0, 0, 1), units(0, 0)), poly(0, 0, 1, 0, 0, 1), units(0, 10))
	w := holding(cell.InitialState(c), 1, 1)
	w.Q = [2]api.Joints{{9, 1, -2}, {-9, 4, 7}}
	want := [][2]api.Joints{
		{{8, 1, -2}, {-9, 4, 7}}, {{10, 1, -2}, {-9, 4, 7}},
		{{9, 0, -2}, {-9, 4, 7}}, {{9, 2, -2}, {-9, 4, 7}},
		{{9, 1, -3}, {-9, 4, 7}}, {{9, 1, -1}, {-9, 4, 7}},
		{{9, 1, -2}, {-10, 4, 7}}, {{9, 1, -2}, {-8, 4, 7}},
		{{9, 1, -2}, {-9, 3, 7}}, {{9, 1, -2}, {-9, 5, 7}},
		{{9, 1, -2}, {-9, 4, 6}}, {{9, 1, -2}, {-9, 4, 8}},
	}
	for i, m := range moves() {
		next, ok := jointmove.Next(c, w, m)
		if !ok || !sameState(next, api.State{Q: want[i], Held: [2]int{-1, 1}, Where: []int{0, -1}}) {
			t.Errorf("Next of %v is %v, %v", m, next, ok)
		}
		checkMove(t, "a state", c, w, m)
	}
}

// P15.1 (O1 to O4): arms, joints and steps in and around their ranges, and at the ends of int: what is not valid has no results.
func TestMovesThatAreNotValid(t *testing.T) {
	c := fixture(yard(), inUnits(0, 0, 1, 0, 0, 1))
	w := cell.InitialState(c)
	numbers := []int{math.MinInt, math.MinInt + 1, -1 << 32, -18, -3, -2, -1, 0, 1, 2, 3, 4, 18, 1 << 32, 1<<32 + 1, math.MaxInt - 1, math.MaxInt}
	valid := 0
	for _, a := range numbers {
		for _, joint := range numbers {
			for _, by := range numbers {
				m := api.Move{Arm: a, Joint: joint, By: by}
				if checkMove(t, "numbers", c, w, m) {
					valid++
				}
			}
		}
	}
	if valid != 12 {
		t.Errorf("%d free moves", valid)
	}
	for _, m := range []api.Move{{Arm: -1, By: 1}, {Arm: 2, By: 1}, {Joint: -1, By: 1}, {Joint: 3, By: 1}, {By: -2}, {}, {By: 2}} {
		next, ok := jointmove.Next(c, w, m)
		if ok || !reflect.DeepEqual(next, api.State{}) {
			t.Errorf("Next of %v is %v, %v", m, next, ok)
		}
		if l := jointmove.SweptPairs(c, w, m); len(l) > 0 || jointmove.IsFree(c, w, m) {
			t.Errorf("%v is free, or has the pairs %v", m, l)
		}
		if l, ok := jointmove.Certificate(c, w, m); ok || l != nil {
			t.Errorf("Certificate of %v is %v, %v", m, l, ok)
		}
		if o, ok := jointmove.FindObstruction(c, w, m); ok || o != (api.Obstruction{}) {
			t.Errorf("FindObstruction of %v is %v, %v", m, o, ok)
		}
	}
}

// P15.1 (O1): each joint of each arm at each of its limits and near it, in both directions; some limits are ends of the range, and some joints are fixed.
func TestMovesAtLimits(t *testing.T) {
	c := yard()
	c.Arms[0].Low, c.Arms[0].High, c.Home[0] = api.Joints{-3, 4, -17}, api.Joints{9, 5, -1}, api.Joints{0, 4, -2}
	c.Arms[1].Low, c.Arms[1].High, c.Home[1] = api.Joints{10, -17, 0}, api.Joints{18, -17, 18}, api.Joints{12, -17, 4}
	w := cell.InitialState(c)
	valid := 0
	for _, m := range moves() {
		low, high := c.Arms[m.Arm].Low[m.Joint], c.Arms[m.Arm].High[m.Joint]
		for value := low; value <= high; value++ {
			x := cloned(w)
			x.Q[m.Arm][m.Joint] = value
			checkMove(t, "limits", c, x, m)
			_, ok := jointmove.Next(c, x, m)
			if isAtLimit := m.By == 1 && value == high || m.By == -1 && value == low; ok == isAtLimit {
				t.Errorf("%v at %d, between %d and %d, is valid: %v", m, value, low, high, ok)
			}
			if ok {
				valid++
			}
		}
	}
	if valid != 2*(12+1+16+8+0+18) {
		t.Errorf("%d valid moves", valid)
	}
}

// P15.1 (O1): joints do not wrap around.
func TestJointsDoNotWrapAround(t *testing.T) {
	c := yard()
	for joint := range 3 {
		for k := range 2 {
			w := cell.InitialState(c)
			w.Q[k][joint] = 18
			if next, ok := jointmove.Next(c, w, api.Move{Arm: k, Joint: joint, By: 1}); ok {
				t.Errorf("a joint moves from 18 to %v", next.Q[k])
			}
			w.Q[k][joint] = -17
			if next, ok := jointmove.Next(c, w, api.Move{Arm: k, Joint: joint, By: -1}); ok {
				t.Errorf("a joint moves from -17 to %v", next.Q[k])
			}
		}
	}
}

// busy is a cell with three resting parts, one of which each arm may hold, a lost part, and two fixtures.
func busy() (api.Cell, api.State) {
	c := yard()
	for i := range 5 {
		c = part(c, poly(0, 0, 2, 0, 2, 1, 0, 2), units(-60+30*i, 80))
	}
	c = fixture(fixture(c, inUnits(70, -70, 75, -70, 75, -65)), inUnits(-70, 70, -65, 70, -70, 75))
	w := cell.InitialState(c)
	w.Where[3] = -1
	w.Q = [2]api.Joints{{9, 1, 2}, {-9, 3, -1}}
	return c, w
}

// checkLabels checks which pairs a move has, and in which order. A star marks the body that moves, the area of which is not that in the state.
func checkLabels(t *testing.T, c api.Cell, w api.State, m api.Move, want string) {
	t.Helper()
	for _, by := range []int{1, -1} {
		m.By = by
		checkMove(t, "a list of pairs", c, w, m)
		l := jointmove.SweptPairs(c, w, m)
		if got := labels(l, m); got != want {
			t.Errorf("the pairs of %v are\n%swant\n%s", m, got, want)
		}
		before := areas(c, w)
		for _, p := range l {
			for _, b := range []api.Body{p.A, p.B} {
				if isStill := slices.Equal(b.Area, before[label(b)]); isStill == isMoved(b, m) {
					t.Errorf("%v: the area of %s in %s is that in the state: %v", m, label(b), labelOf(p, m), isStill)
				}
			}
		}
	}
}

// P15.1 (O2): the pairs of all joints while both arms hold parts. Parts 0 and 2 do not move with arms 0 and 1, nor do the fixtures 0 and 1.
func TestPairsWithTwoCarriedParts(t *testing.T) {
	c, w := busy()
	w = holding(holding(w, 0, 4), 1, 1)
	checkLabels(t, c, w, api.Move{Arm: 0, Joint: 0}, `L00*: L10 L11 L12 C1 R0 R2 F0 F1
L01*: L10 L11 L12 C1 R0 R2 F0 F1
L02*: L10 L11 L12 C1 F0 F1
L10: C0*
L11: C0*
L12: C0*
C0*: C1 R0 R2 F0 F1
`)
	checkLabels(t, c, w, api.Move{Arm: 0, Joint: 1}, `L00: L02* C0*
L01*: L10 L11 L12 C1 R0 R2 F0 F1
L02*: L10 L11 L12 C1 F0 F1
L10: C0*
L11: C0*
L12: C0*
C0*: C1 R0 R2 F0 F1
`)
	checkLabels(t, c, w, api.Move{Arm: 0, Joint: 2}, `L00: L02* C0*
L02*: L10 L11 L12 C1 F0 F1
L10: C0*
L11: C0*
L12: C0*
C0*: C1 R0 R2 F0 F1
`)
	checkLabels(t, c, w, api.Move{Arm: 1, Joint: 0}, `L00: L10* L11* L12* C1*
L01: L10* L11* L12* C1*
L02: L10* L11* L12* C1*
L10*: C0 R0 R2 F0 F1
L11*: C0 R0 R2 F0 F1
L12*: C0 F0 F1
C0: C1*
C1*: R0 R2 F0 F1
`)
	checkLabels(t, c, w, api.Move{Arm: 1, Joint: 1}, `L00: L11* L12* C1*
L01: L11* L12* C1*
L02: L11* L12* C1*
L10: L12* C1*
L11*: C0 R0 R2 F0 F1
L12*: C0 F0 F1
C0: C1*
C1*: R0 R2 F0 F1
`)
	checkLabels(t, c, w, api.Move{Arm: 1, Joint: 2}, `L00: L12* C1*
L01: L12* C1*
L02: L12* C1*
L10: L12* C1*
L12*: C0 F0 F1
C0: C1*
C1*: R0 R2 F0 F1
`)
}

// P15.1 (O2): the pairs of all joints while only the other arm holds a part, which does not move.
func TestPairsWithOneCarriedPart(t *testing.T) {
	c, w := busy()
	c.Fixtures = c.Fixtures[:1]
	w.Where = []int{-1, -1, 2, -1, -1}
	w = holding(w, 1, 0)
	checkLabels(t, c, w, api.Move{Arm: 0, Joint: 0}, `L00*: L10 L11 L12 C1 R2 F0
L01*: L10 L11 L12 C1 R2 F0
L02*: L10 L11 L12 C1 F0
`)
	checkLabels(t, c, w, api.Move{Arm: 0, Joint: 1}, `L00: L02*
L01*: L10 L11 L12 C1 R2 F0
L02*: L10 L11 L12 C1 F0
`)
	checkLabels(t, c, w, api.Move{Arm: 0, Joint: 2}, `L00: L02*
L02*: L10 L11 L12 C1 F0
`)
	w.Held[0], w.Held[1] = w.Held[1], w.Held[0]
	checkLabels(t, c, w, api.Move{Arm: 1, Joint: 0}, `L00: L10* L11* L12*
L01: L10* L11* L12*
L02: L10* L11* L12*
L10*: C0 R2 F0
L11*: C0 R2 F0
L12*: C0 F0
`)
	checkLabels(t, c, w, api.Move{Arm: 1, Joint: 1}, `L00: L11* L12*
L01: L11* L12*
L02: L11* L12*
L10: L12*
L11*: C0 R2 F0
L12*: C0 F0
`)
	checkLabels(t, c, w, api.Move{Arm: 1, Joint: 2}, `L00: L12*
L01: L12*
L02: L12*
L10: L12*
L12*: C0 F0
`)
}

// P15.1 (O2): the pairs of arms alone. Every valid move has some: its last link must keep away from the other arm.
func TestPairsOfArmsAlone(t *testing.T) {
	c := yard()
	w := cell.InitialState(c)
	checkLabels(t, c, w, api.Move{Arm: 0, Joint: 0}, "L00*: L10 L11 L12\nL01*: L10 L11 L12\nL02*: L10 L11 L12\n")
	checkLabels(t, c, w, api.Move{Arm: 0, Joint: 1}, "L00: L02*\nL01*: L10 L11 L12\nL02*: L10 L11 L12\n")
	checkLabels(t, c, w, api.Move{Arm: 0, Joint: 2}, "L00: L02*\nL02*: L10 L11 L12\n")
	checkLabels(t, c, w, api.Move{Arm: 1, Joint: 0}, "L00: L10* L11* L12*\nL01: L10* L11* L12*\nL02: L10* L11* L12*\n")
	checkLabels(t, c, w, api.Move{Arm: 1, Joint: 1}, "L00: L11* L12*\nL01: L11* L12*\nL02: L11* L12*\nL10: L12*\n")
	checkLabels(t, c, w, api.Move{Arm: 1, Joint: 2}, "L00: L12*\nL01: L12*\nL02: L12*\nL10: L12*\n")
}

// level is yard with arm 0 on the X axis, the links of which meet at (-10, 0) and (0, 0), and what joint 2 sweeps when it moves up by a step.
func level() (api.Cell, api.State, api.Move) {
	c := yard()
	c.Arms[0].Base = units(-20, 0)
	return c, standing(cell.InitialState(c), 0, api.Joints{}), api.Move{Arm: 0, Joint: 2, By: 1}
}

// grid is the number of steps in a 65th of a unit.
const grid = unit / 65

// sweptByLevel is the region of link 2 of level: of its corners (0, -1), (10, -1), (10, 1) and (0, 1), of those turned by a step, which are (16, -63), (646, 97), (614, 223) and (-16, 63) on the grid, and of the points beyond the arcs between them, (9, -72), (729, 18), (711, 162) and (-9, 72).
func sweptByLevel() api.Polygon {
	return scaled(grid, -16, 63, 0, -65, 9, -72, 650, -65, 729, 18, 711, 162, 614, 223, -9, 72)
}

// P15.1 (O2): the region of a link as A of its pairs and as B.
func TestRegionOfLink(t *testing.T) {
	c, w, m := level()
	c = fixture(c, inUnits(0, 50, 1, 50, 1, 51))
	l := jointmove.SweptPairs(c, w, m)
	if got := labels(l, m); got != "L00: L02*\nL02*: L10 L11 L12 F0\n" {
		t.Fatalf("the pairs are %s", got)
	}
	want := []api.BodyPair{
		{A: api.Body{Kind: 1, Area: inUnits(-20, -1, -10, -1, -10, 1, -20, 1)}, B: api.Body{Kind: 1, J: 2, Area: sweptByLevel()}},
		{A: api.Body{Kind: 1, J: 2, Area: sweptByLevel()}, B: api.Body{Kind: 1, I: 1, Area: inUnits(39, 40, 39, 30, 41, 30, 41, 40)}},
		{A: api.Body{Kind: 1, J: 2, Area: sweptByLevel()}, B: api.Body{Kind: 1, I: 1, J: 1, Area: inUnits(39, 30, 39, 20, 41, 20, 41, 30)}},
		{A: api.Body{Kind: 1, J: 2, Area: sweptByLevel()}, B: api.Body{Kind: 1, I: 1, J: 2, Area: inUnits(39, 20, 39, 10, 41, 10, 41, 20)}},
		{A: api.Body{Kind: 1, J: 2, Area: sweptByLevel()}, B: api.Body{Kind: 4, Area: inUnits(0, 50, 1, 50, 1, 51)}},
	}
	if !samePairs(l, want) {
		t.Errorf("SweptPairs = %v, want %v", l, want)
	}
	checkMove(t, "level", c, w, m)
	w = standing(w, 0, api.Joints{0, 0, 1})
	if l := jointmove.SweptPairs(c, w, opposite(m)); !samePairs(l, want) {
		t.Errorf("SweptPairs of the opposite move = %v, want %v", l, want)
	}
}

// P15.1 (O2): a carried part moves about the joint that moves, not about the tip that holds it.
func TestRegionOfCarriedPart(t *testing.T) {
	c, w, m := level()
	c = part(c, poly(0, -1, 2, -1, 2, 1), units(-60, -60))
	w.Held, w.Where = [2]int{0, -1}, []int{-1}
	m.Joint = 1
	checkMove(t, "a carried part", c, w, m)
	l := jointmove.SweptPairs(c, w, m)
	// About (-10, 0), the corners (20, -1), (22, -1) and (22, 1) turn to (1276, 257), (1402, 289) and (1370, 415) on the grid; the points beyond the arcs are (1449, 108), (1593, 126) and (1575, 270).
	want := moved(scaled(grid, 1276, 257, 1300, -65, 1430, -65, 1593, 126, 1575, 270, 1370, 415), units(-10, 0))
	last := l[len(l)-1]
	if got := labels(l, m); got != "L00: L02* C0*\nL01*: L10 L11 L12\nL02*: L10 L11 L12\nL10: C0*\nL11: C0*\nL12: C0*\n" {
		t.Errorf("the pairs are %s", got)
	}
	if !slices.Equal(last.B.Area, want) || !slices.Equal(last.A.Area, inUnits(39, 20, 39, 10, 41, 10, 41, 20)) {
		t.Errorf("the last pair is %v, want the region %v", last, want)
	}
}

// P15.1, P15.2, P15.3, P15.4: random scenes of all kinds.
func TestRandomMoves(t *testing.T) {
	r := rand.New(rand.NewSource(15))
	count := map[string]int{}
	for range 3500 {
		c, w, m := drawScene(r)
		free := checkMove(t, "random", c, w, m)
		if t.Failed() {
			t.FailNow()
		}
		next, valid := nextOf(c, w, m)
		if !valid {
			count["not valid"]++
			continue
		}
		count[fmt.Sprintf("free %v, from a free state %v, to one %v", free, collision.IsFree(c, w), collision.IsFree(c, next))]++
		pairs := pairsOf(c, w, m)
		all := checksOf(pairs)
		if o, ok := obstructionOf(all, m); ok {
			count[fmt.Sprintf("part %d", o.B)]++
			count[fmt.Sprintf("touch %d", o.Touch.Kind)]++
		}
		for _, k := range all {
			count[fmt.Sprintf("%s %v", labelOf(pairs[k.pair], m), k.meet)]++
		}
	}
	checkCounts(t, count)
}

// checkCounts checks that random scenes are of all kinds: valid moves or not, from and to all states, with obstructions of all kinds, and each kind of pair, with each body of it moving, sometimes kept apart and sometimes not.
func checkCounts(t *testing.T, count map[string]int) {
	t.Helper()
	names := []string{"not valid", "part 0", "part 1", "part 2", "part 3", "touch 1", "touch 2", "touch 3"}
	for _, states := range []string{"true, to one true", "true, to one false", "false, to one true", "false, to one false"} {
		names = append(names, "free false, from a free state "+states)
	}
	names = append(names, "free true, from a free state true, to one true", "free true, from a free state false, to one false")
	var pairs []string
	for k := range 2 {
		pairs = append(pairs, fmt.Sprintf("L%d0-L%d2*", k, k), fmt.Sprintf("L%d0-C%d*", k, k), fmt.Sprintf("C%d*-F0", k), fmt.Sprintf("C%d*-R1", k))
		for n := range 3 {
			pairs = append(pairs, fmt.Sprintf("L%d%d*-F1", k, n), fmt.Sprintf("L%d%d*-C%d", k, n, 1-k), fmt.Sprintf("L%d%d-C%d*", k, n, 1-k))
			for i := range 3 {
				pairs = append(pairs, fmt.Sprintf("L%d%d-L%d%d*", 0, n, 1, i), fmt.Sprintf("L%d%d*-L%d%d", 0, n, 1, i))
			}
		}
		pairs = append(pairs, fmt.Sprintf("L%d0*-R0", k), fmt.Sprintf("L%d1*-R0", k))
	}
	for _, name := range append(pairs, "C0*-C1", "C0-C1*") {
		names = append(names, name+" true", name+" false")
	}
	for _, name := range names {
		if count[name] < 5 {
			t.Errorf("%s: %d", name, count[name])
		}
	}
}
