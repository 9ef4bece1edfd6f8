package expand_test

import (
	"fmt"
	"math"
	"math/rand"
	"reflect"
	"slices"
	"sync"
	"testing"

	"ambidexter/api"
	"ambidexter/cell"
	"ambidexter/expand"
)

// same tells whether two states are equal; nil and empty slices are.
func same(a, b api.State) bool {
	return a.Q == b.Q && a.Held == b.Held && fmt.Sprint(a.Where) == fmt.Sprint(b.Where)
}

// checkApply compares Apply with want.
func checkApply(t *testing.T, what string, c api.Cell, w api.State, s api.Step, want api.State, err api.Errno) {
	t.Helper()
	if !cell.Valid(c) || !isState(c, w) {
		t.Fatalf("%s: nothing is specified for %v and %v", what, c, w)
	}
	if got, e := expand.Apply(c, w, s); !same(got, want) || e != err {
		t.Errorf("%s: Apply of %v in %v = %v, %v, want %v, %v", what, s, w, got, e, want, err)
	}
}

// checkRefused checks that Apply returns an error with the given state.
func checkRefused(t *testing.T, what string, c api.Cell, w api.State, s api.Step, err api.Errno) {
	t.Helper()
	checkApply(t, what, c, w, s, w, err)
}

// checkStep compares Apply with M1.
func checkStep(t *testing.T, what string, c api.Cell, w api.State, s api.Step) {
	t.Helper()
	want, err := applied(c, w, s)
	checkApply(t, what, c, w, s, want, err)
}

// by returns a copy of s with another arm.
func by(k int, s api.Step) api.Step {
	s.Arm = k
	return s
}

// P13.1 (M1): the joint values and the poses that the tests are written for.
func TestBench(t *testing.T) {
	c := described(t, bench)
	for place, l := range map[int][][2]api.Joints{middle: {atMiddle, otherAtMiddle}, lower: {atLower, otherAtLower}, side: {atSide}} {
		for k, a := range c.Arms {
			var want []api.Joints
			for _, q := range l {
				want = append(want, q[k])
			}
			slices.SortFunc(want, func(p, q api.Joints) int { return slices.Compare(p[:], q[:]) })
			if got := solutionsOf(a)[pose{c.Places[place].At, c.Places[place].Dir}]; !slices.Equal(got, want) {
				t.Errorf("arm %d is at %s with %v, not %v", k, c.Places[place].Name, got, want)
			}
		}
	}
	for place, want := range map[int][2]int{left: {2, 0}, right: {0, 2}, west: {2, 0}, far: {0, 0}} {
		p := c.Places[place]
		got := [2]int{len(solutionsOf(c.Arms[0])[pose{p.At, p.Dir}]), len(solutionsOf(c.Arms[1])[pose{p.At, p.Dir}])}
		if got != want {
			t.Errorf("%v configurations reach %s", got, p.Name)
		}
	}
	w := cell.InitialState(c)
	if !isState(c, w) || !same(w, api.State{Q: [2]api.Joints{{9, 0, 0}, {9, 0, -1}}, Held: [2]int{-1, -1}, Where: []int{middle, lower, far}}) {
		t.Error(w)
	}
}

// P13.1 (M1): a step of each kind for each arm, without errors.
func TestApplyWithoutErrors(t *testing.T) {
	c := described(t, bench)
	w := cell.InitialState(c)
	q0, q1 := api.Joints{-17, 18, 3}, api.Joints{18, -17, -4}
	for k := range 2 {
		checkApply(t, "go", c, w, goes(k, q0), standing(w, k, q0), api.OK)
		checkApply(t, "both", c, w, by(k, both(q0, q1)), standing(standing(w, 0, q0), 1, q1), api.OK)
		for _, q := range [][2]api.Joints{atMiddle, otherAtMiddle} {
			ready := standing(w, k, q[k])
			checkApply(t, "take", c, ready, takes(k, nut, middle), holding(ready, k, nut), api.OK)
			free := resting(ready, nut, right)
			checkApply(t, "leave", c, holding(free, k, bolt), leaves(k, bolt, middle), resting(free, bolt, middle), api.OK)
			other := holding(free, 1-k, leftPart)
			checkApply(t, "leave while the other arm holds a part", c, holding(other, k, bolt), leaves(k, bolt, middle), resting(other, bolt, middle), api.OK)
			other = holding(ready, 1-k, leftPart)
			checkApply(t, "take while the other arm holds a part", c, other, takes(k, nut, middle), holding(other, k, nut), api.OK)
		}
		checkApply(t, "wait", c, w, by(k, waits(7)), w, api.OK)
		checkApply(t, "wait with a part", c, holding(w, k, leftPart), by(k, waits(7)), holding(w, k, leftPart), api.OK)
		checkApply(t, "go with a part", c, holding(w, k, leftPart), goes(k, q0), standing(holding(w, k, leftPart), k, q0), api.OK)
	}
}

// P13.1 (M1): each error of StepTake and StepLeave for each arm, by itself: parts that are held by this arm or the other one, lost or elsewhere, places that are occupied, and grippers that are elsewhere.
func TestApplyErrors(t *testing.T) {
	c := described(t, bench)
	for k := range 2 {
		w := standing(cell.InitialState(c), k, atMiddle[k])
		take, leave := takes(k, nut, middle), leaves(k, leftPart, middle)
		checkRefused(t, "take with a full hand", c, holding(w, k, leftPart), take, api.ErrHeld)
		checkRefused(t, "take what the other arm holds", c, holding(w, 1-k, nut), take, api.ErrMissing)
		checkRefused(t, "take a lost part", c, resting(w, nut, -1), take, api.ErrMissing)
		checkRefused(t, "take a part that is elsewhere", c, resting(w, nut, west), take, api.ErrMissing)
		checkRefused(t, "take another part than the one that is here", c, w, takes(k, bolt, middle), api.ErrMissing)
		checkRefused(t, "take from home", c, standing(w, k, c.Home[k]), take, api.ErrUnreachable)
		checkRefused(t, "take with the other arm", c, standing(standing(w, k, c.Home[k]), 1-k, atMiddle[1-k]), take, api.ErrUnreachable)
		full := holding(w, k, leftPart)
		free := resting(full, nut, -1)
		checkApply(t, "leave", c, free, leave, resting(resting(w, nut, -1), leftPart, middle), api.OK)
		checkRefused(t, "leave from an empty hand", c, resting(w, nut, -1), leave, api.ErrEmptyHand)
		checkRefused(t, "leave what the other arm holds", c, holding(resting(w, nut, -1), 1-k, leftPart), leave, api.ErrEmptyHand)
		checkRefused(t, "leave another part than the one that is held", c, free, leaves(k, bolt, middle), api.ErrEmptyHand)
		checkRefused(t, "leave another part while the other arm holds it", c, holding(free, 1-k, bolt), leaves(k, bolt, middle), api.ErrEmptyHand)
		checkRefused(t, "leave where another part is", c, full, leave, api.ErrOccupied)
		checkRefused(t, "leave from home", c, standing(free, k, c.Home[k]), leave, api.ErrUnreachable)
		checkRefused(t, "leave elsewhere", c, free, leaves(k, leftPart, right), api.ErrUnreachable)
		checkRefused(t, "leave with the other arm", c, standing(standing(free, k, c.Home[k]), 1-k, atMiddle[1-k]), leave, api.ErrUnreachable)
	}
}

// P13.1 (M1), P2: several errors at once, of which the first one is returned, with the given state.
func TestApplySeveralErrors(t *testing.T) {
	c := described(t, bench)
	for k := range 2 {
		home := cell.InitialState(c)
		full := holding(home, k, leftPart)
		checkRefused(t, "take: held, missing, unreachable", c, full, takes(k, bolt, middle), api.ErrHeld)
		checkRefused(t, "take: held, missing", c, standing(full, k, atMiddle[k]), takes(k, bolt, middle), api.ErrHeld)
		checkRefused(t, "take: held, unreachable", c, full, takes(k, nut, middle), api.ErrHeld)
		checkRefused(t, "take: missing, unreachable", c, home, takes(k, bolt, middle), api.ErrMissing)
		checkRefused(t, "take what it holds itself", c, full, takes(k, leftPart, middle), api.ErrHeld)
		checkRefused(t, "take: no part, held", c, full, takes(k, 3, middle), api.ErrArg)
		checkRefused(t, "take: no place, missing", c, home, takes(k, nut, 7), api.ErrArg)
		checkRefused(t, "take a lost part from no place", c, resting(home, nut, -1), takes(k, nut, -1), api.ErrArg)
		checkRefused(t, "leave: empty, occupied, unreachable", c, home, leaves(k, bolt, middle), api.ErrEmptyHand)
		checkRefused(t, "leave: empty, occupied", c, standing(home, k, atMiddle[k]), leaves(k, bolt, middle), api.ErrEmptyHand)
		checkRefused(t, "leave: empty, unreachable", c, home, leaves(k, bolt, right), api.ErrEmptyHand)
		checkRefused(t, "leave: occupied, unreachable", c, full, leaves(k, leftPart, middle), api.ErrOccupied)
		checkRefused(t, "leave: no part, occupied", c, full, leaves(k, 3, middle), api.ErrArg)
		checkRefused(t, "leave nothing from an empty hand", c, home, leaves(k, -1, right), api.ErrArg)
		checkRefused(t, "leave: no place, empty", c, home, leaves(k, bolt, 7), api.ErrArg)
		checkRefused(t, "leave at no place, while a part is held", c, full, leaves(k, leftPart, -1), api.ErrArg)
	}
	for _, k := range []int{-1, 2} {
		checkRefused(t, "both: no arm, range", c, cell.InitialState(c), by(k, both(api.Joints{19}, api.Joints{})), api.ErrArg)
		checkRefused(t, "wait: no arm", c, cell.InitialState(c), by(k, waits(7)), api.ErrArg)
	}
}

// P13.1 (M1): all kinds and arms in and around the range, and the largest and the smallest ones.
func TestApplyKindsAndArms(t *testing.T) {
	c := described(t, bench)
	numbers := []int{math.MinInt, -1 << 32, -2, -1, 0, 1, 2, 3, 4, 5, 6, 7, 8, 9, 1 << 32, 1<<32 + 1, math.MaxInt}
	for _, kind := range numbers {
		for _, k := range numbers {
			for _, s := range []api.Step{{}, takes(0, nut, middle), leaves(0, bolt, middle), waits(2000), both(api.Joints{1, 2, 3}, api.Joints{4, 5, 6})} {
				s.Kind, s.Arm = kind, k
				w := standing(standing(cell.InitialState(c), 0, atMiddle[0]), 1, atMiddle[1])
				checkStep(t, "kinds and arms", c, w, s)
				if kind < 1 || kind > 5 || k < 0 || k > 1 {
					checkRefused(t, "kinds and arms", c, w, s, api.ErrArg)
				}
			}
		}
	}
}

// narrow is bench with arms whose limits neither the joint values 0 nor those of the other arm are within.
func narrow(t *testing.T) api.Cell {
	c := described(t, bench)
	return limited(limited(c, 0, api.Joints{2, -9, 11}, api.Joints{5, -2, 12}), 1, api.Joints{-11, 4, -12}, api.Joints{-4, 9, -1})
}

// P13.1 (M1): StepGo with each joint at its limits and beyond them; the To of the other arm does not matter.
func TestApplyGoAtTheLimits(t *testing.T) {
	c := narrow(t)
	w := cell.InitialState(c)
	for k, a := range c.Arms {
		for joint := range 3 {
			for value, within := range map[int]bool{
				a.Low[joint]: true, a.High[joint]: true, a.Low[joint] - 1: false, a.High[joint] + 1: false,
				a.Low[joint] - 36: false, a.High[joint] + 36: false, math.MinInt: false, math.MaxInt: false,
			} {
				for _, q := range []api.Joints{a.Low, a.High} {
					for _, other := range []api.Joints{{}, c.Arms[1-k].Low, {99, -99, math.MinInt}} {
						q[joint] = value
						s := goes(k, q)
						s.To[1-k] = other
						if within {
							checkApply(t, "within", c, w, s, standing(w, k, q), api.OK)
						} else {
							checkRefused(t, "beyond", c, w, s, api.ErrRange)
						}
					}
				}
			}
		}
		checkRefused(t, "the joint values 0", c, w, goes(k, api.Joints{}), api.ErrRange)
		checkRefused(t, "joint values of the other arm", c, w, goes(k, c.Arms[1-k].Low), api.ErrRange)
	}
}

// P13.1 (M1): StepBoth with each joint of each arm at its limits and beyond them, for both values of Arm.
func TestApplyBothAtTheLimits(t *testing.T) {
	c := narrow(t)
	w := cell.InitialState(c)
	accepted := 0
	for n := range 1 << 13 {
		s := api.Step{Kind: api.StepBoth, Arm: n >> 12}
		beyond := false
		for i := range 6 {
			a := c.Arms[i/3]
			s.To[i/3][i%3] = []int{a.Low[i%3], a.Low[i%3] - 1, a.High[i%3], a.High[i%3] + 1}[n>>(2*i)&3]
			beyond = beyond || n>>(2*i)&1 == 1
		}
		if beyond {
			checkRefused(t, "beyond", c, w, s, api.ErrRange)
			continue
		}
		accepted++
		checkApply(t, "within", c, w, s, standing(standing(w, 0, s.To[0]), 1, s.To[1]), api.OK)
	}
	if accepted != 128 {
		t.Errorf("%d accepted", accepted)
	}
	checkRefused(t, "exchanged", c, w, both(c.Home[1], c.Home[0]), api.ErrRange)
}

// P13.1 (M1): all numbers of ticks in and around the range, and the largest and the smallest ones.
func TestApplyWait(t *testing.T) {
	c := described(t, bench)
	w := holding(cell.InitialState(c), 1, bolt)
	numbers := []int{math.MinInt, -2000, 1 << 32, math.MaxInt}
	for n := -3; n <= 2003; n++ {
		numbers = append(numbers, n)
	}
	for _, n := range numbers {
		err := api.OK
		if n < 0 || n > 2000 {
			err = api.ErrArg
		}
		checkRefused(t, "wait", c, w, waits(n), err)
		checkRefused(t, "wait", c, w, by(1, waits(n)), err)
	}
}

// P13.1 (M1): all parts and places in and around the range, and the largest and the smallest ones, also in cells that have none.
func TestApplyIndices(t *testing.T) {
	full := described(t, bench)
	noParts := full
	noParts.Parts = nil
	numbers := []int{math.MinInt, -1 << 32, -2, -1, 0, 1, 2, 3, 4, 5, 6, 7, 8, 16, 1 << 32, math.MaxInt}
	for _, c := range []api.Cell{full, noParts, bare(full)} {
		for k := range 2 {
			w := standing(cell.InitialState(c), k, atMiddle[k])
			for _, part := range numbers {
				for _, place := range numbers {
					checkStep(t, "take", c, w, takes(k, part, place))
					checkStep(t, "leave", c, w, leaves(k, part, place))
					if part < 0 || part >= len(c.Parts) || place < 0 || place >= len(c.Places) {
						checkRefused(t, "take", c, w, takes(k, part, place), api.ErrArg)
						checkRefused(t, "leave", c, w, leaves(k, part, place), api.ErrArg)
					}
				}
			}
		}
	}
}

// P13.1 (M1): fields that the kind of a step does not use do not matter.
func TestApplyOtherFields(t *testing.T) {
	c := described(t, bench)
	w := standing(cell.InitialState(c), 1, atMiddle[1])
	for _, n := range []int{math.MinInt, -1, 0, 2, 2001, math.MaxInt} {
		q := [2]api.Joints{{n, n, n}, {n, -n, 0}}
		checkApply(t, "go", c, w, api.Step{Kind: 1, Arm: 1, Part: n, Place: n, N: n, To: [2]api.Joints{q[0], {1, 2, 3}}}, standing(w, 1, api.Joints{1, 2, 3}), api.OK)
		checkApply(t, "both", c, w, api.Step{Kind: 2, Arm: 1, Part: n, Place: n, N: n, To: atLower}, standing(standing(w, 0, atLower[0]), 1, atLower[1]), api.OK)
		checkApply(t, "take", c, w, api.Step{Kind: 3, Arm: 1, Part: nut, Place: middle, N: n, To: q}, holding(w, 1, nut), api.OK)
		checkApply(t, "leave", c, holding(w, 1, nut), api.Step{Kind: 4, Arm: 1, Part: nut, Place: middle, N: n, To: q}, w, api.OK)
		checkApply(t, "wait", c, w, api.Step{Kind: 5, Arm: 1, Part: n, Place: n, N: 2000, To: q}, w, api.OK)
	}
}

// P13.1 (M1): the gripper is at the point of the place in another direction, in its direction at another point, or at its very pose.
func TestApplyPoses(t *testing.T) {
	c := described(t, bench)
	w := cell.InitialState(c)
	upAtWest := standing(holding(w, 0, bolt), 0, atMiddle[0])
	checkRefused(t, "the direction of middle at west", c, upAtWest, leaves(0, bolt, west), api.ErrUnreachable)
	atWest := standing(w, 0, api.Joints{9, -9, 0})
	checkRefused(t, "the direction of west at middle", c, atWest, takes(0, nut, middle), api.ErrUnreachable)
	checkApply(t, "the direction of west at west", c, holding(atWest, 0, bolt), leaves(0, bolt, west), resting(atWest, bolt, west), api.OK)
	for k := range 2 {
		for joint := range 3 {
			for _, by := range []int{-1, 1, 9, -9} {
				q := atMiddle[k]
				q[joint] += by
				if allows(c.Arms[k], q) {
					checkRefused(t, "a joint elsewhere", c, standing(w, k, q), takes(k, nut, middle), api.ErrUnreachable)
				}
			}
		}
		for _, q := range []api.Joints{{0, 8, 1}, {0, 9, 9}, {1, 8, 0}, {-9, 9, 9}, {0, 0, 9}, {18, 0, -9}} {
			checkRefused(t, "the direction at another point", c, standing(w, k, q), takes(k, nut, middle), api.ErrUnreachable)
		}
		for _, by := range []api.Point{{X: 16}, {X: -16}, {Y: 16}, {Y: -16}, {X: unit}, {Y: 40 * unit}} {
			moved := described(t, bench)
			moved.Places[middle].At.X += by.X
			moved.Places[middle].At.Y += by.Y
			checkRefused(t, "beside the place", moved, standing(w, k, atMiddle[k]), takes(k, nut, middle), api.ErrUnreachable)
		}
	}
}

// tray is bench with four places, two of them at one point, and two parts.
func tray(t *testing.T) api.Cell {
	c := described(t, bench)
	c.Places = []api.Place{c.Places[middle], c.Places[west], c.Places[lower], c.Places[right]}
	c.Parts = c.Parts[:2]
	c.Parts[1].Place = 1
	return c
}

// statesOf are all valid states of a cell with two parts whose arms have certain joint values.
func statesOf(c api.Cell, q [2][]api.Joints) []api.State {
	var l []api.State
	for _, q0 := range q[0] {
		for _, q1 := range q[1] {
			for n := range 9 * 25 {
				w := api.State{Q: [2]api.Joints{q0, q1}, Held: [2]int{n/3%3 - 1, n%3 - 1}, Where: []int{n/9%5 - 1, n/45 - 1}}
				if isState(c, w) {
					l = append(l, w)
				}
			}
		}
	}
	return l
}

// P13.1 (M1), P2: all takes and leaves in all states of a small cell; each pair of errors occurs.
func TestApplyEverywhere(t *testing.T) {
	c := tray(t)
	states := statesOf(c, [2][]api.Joints{{atMiddle[0], otherAtMiddle[0], {9, -9, 0}, {9, 0, 0}}, {atMiddle[1], atLower[1], otherAtLower[1], {18, 0, -9}}})
	if len(states) != 43*16 {
		t.Fatalf("%d states", len(states))
	}
	count := map[string]int{}
	for _, w := range states {
		for n := range 2 * 4 * 4 * 6 {
			s := api.Step{Kind: 3 + n%2, Arm: n/2%4 - 1, Part: n/8%4 - 1, Place: n/32 - 1}
			want, err := applied(c, w, s)
			if got, e := expand.Apply(c, w, s); !same(got, want) || e != err {
				t.Fatalf("Apply of %v in %v = %v, %v, want %v, %v", s, w, got, e, want, err)
			}
			l := errorsOfStep(c, w, s)
			for i, first := range l {
				for _, second := range l[i:] {
					count[fmt.Sprint(s.Kind, s.Arm, int(first), int(second))]++
				}
			}
			count[fmt.Sprint(s.Kind, s.Arm, len(l))]++
		}
	}
	for _, what := range []string{
		"3 %d 0", "3 %d 1 1", "3 %d 1 130", "3 %d 1 132", "3 %d 1 134", "3 %d 130 130", "3 %d 130 132", "3 %d 130 134", "3 %d 132 132", "3 %d 132 134", "3 %d 134 134",
		"4 %d 0", "4 %d 1 1", "4 %d 1 131", "4 %d 1 133", "4 %d 1 134", "4 %d 131 131", "4 %d 131 133", "4 %d 131 134", "4 %d 133 133", "4 %d 133 134", "4 %d 134 134",
	} {
		for k := range 2 {
			if n := count[fmt.Sprintf(what, k)]; n < 20 {
				t.Errorf("%s: %d", fmt.Sprintf(what, k), n)
			}
		}
	}
}

// drawStep returns any step, often one that has few errors in a state.
func drawStep(r *rand.Rand, c api.Cell, w api.State) api.Step {
	s := api.Step{Kind: drawIn(r, 1, 5), Arm: r.Intn(2), Part: drawIn(r, -1, len(c.Parts)), Place: drawIn(r, -1, len(c.Places)), N: drawIn(r, -20, 2020)}
	s.To = [2]api.Joints{drawJoints(r, c.Arms[0]), drawJoints(r, c.Arms[1])}
	if s.Kind == api.StepTake && r.Intn(2) == 0 && s.Part >= 0 && s.Part < len(c.Parts) {
		s.Place = w.Where[s.Part]
	}
	if s.Kind == api.StepLeave && r.Intn(2) == 0 {
		s.Part = w.Held[s.Arm]
	}
	if s.Kind == api.StepGo && s.Place >= 0 && s.Place < len(c.Places) {
		if q, ok := chosen(c.Arms[s.Arm], c.Places[s.Place], w.Q[s.Arm]); ok {
			s.To[s.Arm] = q
		}
	}
	switch r.Intn(10) {
	case 0:
		s.To[r.Intn(2)][r.Intn(3)] = drawIn(r, -20, 20)
	case 1:
		s.Kind, s.Arm = drawIn(r, -1, 7), drawIn(r, -1, 2)
	}
	return s
}

// P13.1 (M1), P13.2, P13.3: random steps in random states of random cells: all states behind them are valid, and no part appears or disappears.
func TestApplyRandomSteps(t *testing.T) {
	r := rand.New(rand.NewSource(13))
	stations := stations(t)
	count := map[string]int{}
	for range 600 {
		c := drawCell(r, stations)
		w := drawState(r, c)
		lost := lostParts(w)
		for range 150 {
			s := drawStep(r, c, w)
			checkStep(t, "a random step", c, w, s)
			after, err := expand.Apply(c, w, s)
			if !isState(c, after) || !slices.Equal(lostParts(after), lost) {
				t.Fatalf("Apply of %v in %v = %v", s, w, after)
			}
			count[fmt.Sprint(s.Kind, int(err))]++
			w = after
		}
	}
	for _, what := range []string{"0 1", "6 1", "1 0", "1 1", "1 121", "2 0", "2 1", "2 121", "3 0", "3 1", "3 130", "3 132", "3 134", "4 0", "4 1", "4 131", "4 133", "4 134", "5 0", "5 1"} {
		if count[what] < 20 {
			t.Errorf("%s: %d", what, count[what])
		}
	}
}

// lostParts are the parts that are neither held nor at a place.
func lostParts(w api.State) []int {
	var l []int
	for part, place := range w.Where {
		if place < 0 && w.Held[0] != part && w.Held[1] != part {
			l = append(l, part)
		}
	}
	return l
}

// P13.1 (M2): EqualStates for states that differ in nothing, in one number, and in the length of Where, whether they are valid or not.
func TestEqualStates(t *testing.T) {
	for _, where := range [][]int{nil, {}, {0}, {3, -1, 7}, {0, 0, 0, 0, 0, 0, 0, 0}, {math.MinInt, math.MaxInt}} {
		for _, n := range []int{0, 1, -18, math.MaxInt} {
			w := api.State{Q: [2]api.Joints{{n, 1, 2}, {3, 4, n}}, Held: [2]int{n, -1}, Where: where}
			checkEqual(t, w, w, true)
			checkEqual(t, w, cloned(w), true)
			for _, other := range neighbors(w) {
				checkEqual(t, w, other, false)
			}
		}
	}
	checkEqual(t, api.State{}, api.State{Where: []int{}}, true)
	checkEqual(t, api.State{Where: make([]int, 0, 4)}, api.State{}, true)
	checkEqual(t, api.State{Where: make([]int, 2, 9)}, api.State{Where: []int{0, 0}}, true)
	checkEqual(t, api.State{}, api.State{Where: []int{0}}, false)
	checkEqual(t, api.State{}, api.State{Where: []int{-1}}, false)
	checkEqual(t, api.State{Where: []int{1, 2}}, api.State{Where: []int{2, 1}}, false)
	checkEqual(t, api.State{Held: [2]int{1, 2}}, api.State{Held: [2]int{2, 1}}, false)
	checkEqual(t, api.State{Q: [2]api.Joints{{1}}}, api.State{Q: [2]api.Joints{{}, {1}}}, false)
}

// checkEqual compares EqualStates with want, in both orders.
func checkEqual(t *testing.T, a, b api.State, want bool) {
	t.Helper()
	if expand.EqualStates(a, b) != want || expand.EqualStates(b, a) != want {
		t.Errorf("EqualStates(%v, %v) is not %v", a, b, want)
	}
}

// neighbors are the states that differ from w in one number, or in the length of Where.
func neighbors(w api.State) []api.State {
	var l []api.State
	for _, by := range []int{1, -1, 36, 1 << 32, math.MinInt} {
		for i := range 6 {
			other := cloned(w)
			other.Q[i/3][i%3] += by
			l = append(l, other)
		}
		for k := range w.Held {
			other := cloned(w)
			other.Held[k] += by
			l = append(l, other)
		}
		for part := range w.Where {
			other := cloned(w)
			other.Where[part] += by
			l = append(l, other)
		}
	}
	for _, more := range []int{-1, 0, 5} {
		other := cloned(w)
		other.Where = append(other.Where, more)
		l = append(l, other)
	}
	for part := range w.Where {
		other := cloned(w)
		other.Where = slices.Delete(other.Where, part, part+1)
		l = append(l, other)
	}
	return l
}

// P3: Apply changes neither its arguments nor the memory behind them, and returns memory of its own, with an error, too.
func TestApplyMemory(t *testing.T) {
	c := described(t, bench)
	w := standing(cell.InitialState(c), 0, atMiddle[0])
	full := holding(w, 0, bolt)
	for _, x := range []struct {
		w api.State
		s api.Step
	}{
		{w, goes(0, api.Joints{1, 2, 3})}, {w, goes(0, api.Joints{19})}, {w, both(api.Joints{}, api.Joints{})}, {w, both(api.Joints{19}, api.Joints{})},
		{w, waits(3)}, {w, waits(-1)}, {w, takes(0, nut, middle)}, {w, takes(0, bolt, middle)}, {w, takes(0, 3, 7)}, {w, api.Step{Kind: 9}}, {w, by(-1, waits(3))},
		{full, leaves(0, bolt, middle)}, {resting(full, nut, right), leaves(0, bolt, middle)}, {resting(full, nut, right), leaves(0, bolt, west)},
	} {
		memory := append(slices.Clone(x.w.Where), 77, 78)
		given := api.State{Q: x.w.Q, Held: x.w.Held, Where: memory[:3]}
		first, _ := expand.Apply(c, given, x.s)
		second, _ := expand.Apply(c, given, x.s)
		if !same(given, x.w) || memory[3] != 77 || memory[4] != 78 || !reflect.DeepEqual(c, described(t, bench)) {
			t.Errorf("Apply of %v changes %v to %v", x.s, x.w, memory)
		}
		for part := range first.Where {
			first.Where[part] = 99
		}
		_ = append(first.Where, 99, 99)
		want, err := applied(c, x.w, x.s)
		if !same(given, x.w) || !same(second, want) || memory[3] != 77 {
			t.Errorf("a result of Apply of %v shares memory", x.s)
		}
		checkApply(t, "behind a change of an earlier result", c, given, x.s, want, err)
	}
}

// P3: calls at the same time do not affect each other.
func TestApplyConcurrently(t *testing.T) {
	c := tray(t)
	states := statesOf(c, [2][]api.Joints{{atMiddle[0]}, {atMiddle[1]}})
	var group sync.WaitGroup
	for i := range 8 {
		group.Go(func() {
			for n := range 2000 {
				w := states[(n+5*i)%len(states)]
				s := api.Step{Kind: 3 + n%2, Arm: n / 2 % 2, Part: n / 4 % 2, Place: n / 8 % 4}
				want, err := applied(c, w, s)
				if got, e := expand.Apply(c, w, s); !same(got, want) || e != err || !expand.EqualStates(got, want) {
					t.Errorf("Apply of %v in %v at the same time as others = %v, %v", s, w, got, e)
				}
			}
		})
	}
	group.Wait()
}

// P1: every call of Apply returns, also for cells and states that are not valid.
func TestEveryApplyReturns(t *testing.T) {
	numbers := []int{math.MinInt, -1000, -18, -2, -1, 0, 1, 2, 3, 9, 19, 1000, math.MaxInt}
	full := described(t, bench)
	for _, n := range numbers {
		c := full
		q := api.Joints{n, n, n}
		c.Arms[0] = api.Arm{Base: api.Point{X: n, Y: n}, Lens: [3]int{n, n, n}, Wide: n, Low: q, High: q}
		c.Places = append(slices.Clone(c.Places), api.Place{}, api.Place{At: api.Point{X: n, Y: -n}, Dir: api.Direction{X: n, Y: n, N: n}})
		for _, m := range numbers {
			for _, where := range [][]int{nil, {m}, {n, m, 0}, {middle, lower, far, 0, 0}} {
				w := api.State{Q: [2]api.Joints{q, {m, m, m}}, Held: [2]int{m, n}, Where: where}
				for kind := range 7 {
					for k := range 2 {
						for part := range 4 {
							s := api.Step{Kind: kind, Arm: k, Part: part, Place: min(max(m, 0), 8), N: n, To: w.Q}
							expand.Apply(c, w, s)
							expand.Apply(full, w, s)
							expand.Apply(api.Cell{}, w, s)
						}
					}
				}
			}
		}
	}
}
