package invkin_test

import (
	"math"
	"math/rand"
	"slices"
	"sync"
	"testing"

	"ambidexter/api"
	"ambidexter/arm"
	"ambidexter/invkin"
	"ambidexter/rotation"
)

// The directions of the axes.
var (
	right = api.Direction{X: length, N: 3}
	up    = api.Direction{Y: length, N: 3}
	left  = api.Direction{X: -length, N: 3}
	down  = api.Direction{Y: -length, N: 3}
)

// example returns an arm whose links are all one unit long.
func example() api.Arm { return free(pt(0, 0), [3]int{1, 1, 1}) }

// solve returns the solutions for a target.
func solve(a api.Arm, x target) []api.Joints { return invkin.Solve(a, x.at, x.d) }

// checkSolve compares Solve with want.
func checkSolve(t *testing.T, what string, a api.Arm, x target, want []api.Joints) {
	t.Helper()
	if got := solve(a, x); !slices.Equal(got, want) {
		t.Errorf("%s: Solve(%v, %v) = %v, want %v", what, a, x, got, want)
	}
}

// P8.1 (H1): targets that are written out, of arms whose joints may have all values: with one solution, with two and with none.
func TestSolveExamples(t *testing.T) {
	const u = unit / 65
	for _, x := range []struct {
		what string
		lens [3]int
		at   api.Point
		d    api.Direction
		want []api.Joints
	}{
		{"the chapter's example", [3]int{2, 1, 1}, units(0, 0), left, []api.Joints{{0, 18, 0}}},
		{"stretched out to the right", [3]int{1, 1, 1}, units(3, 0), right, []api.Joints{{0, 0, 0}}},
		{"stretched out upwards", [3]int{5, 3, 2}, units(0, 10), up, []api.Joints{{9, 0, 0}}},
		{"stretched out to the left", [3]int{5, 3, 2}, units(-10, 0), left, []api.Joints{{18, 0, 0}}},
		{"stretched out downwards", [3]int{5, 3, 2}, units(0, -10), down, []api.Joints{{-9, 0, 0}}},
		{"the second link folded back", [3]int{5, 3, 2}, units(0, 0), left, []api.Joints{{0, 18, 0}}},
		{"the second and the third link folded back", [3]int{5, 3, 2}, units(4, 0), right, []api.Joints{{0, 18, 18}}},
		{"the third link folded back", [3]int{5, 3, 2}, units(-6, 0), right, []api.Joints{{18, 0, 18}}},
		{"folded back beyond the base", [3]int{3, 5, 2}, units(0, -4), down, []api.Joints{{9, 18, 0}}},
		{"all joints at 18", [3]int{3, 2, 5}, units(-6, 0), left, []api.Joints{{18, 18, 18}}},
		{"all joints at -17", [3]int{1, 1, 1}, pt(-16*226493, -16*122976), api.Direction{X: -201663, Y: -186416, N: 3}, []api.Joints{{-17, -17, -17}}},
		{"two stretched links", [3]int{1, 1, 1}, units(1, 2), right, []api.Joints{{9, 0, -9}}},
		{"two solutions", [3]int{1, 1, 1}, units(2, 1), right, []api.Joints{{0, 9, -9}, {9, -9, 0}}},
		{"two solutions downwards", [3]int{1, 1, 1}, units(-1, -2), down, []api.Joints{{-9, -9, 9}, {18, 9, 0}}},
		{"two solutions with mirrored elbows", [3]int{3, 4, 1}, units(6, 0), right, []api.Joints{{-5, 9, -4}, {5, -9, 4}}},
		{"two solutions off the axes", [3]int{1, 1, 1}, pt(10*u, 145*u), api.Direction{X: -25 * 65 * 65, Y: 60 * 65 * 65, N: 3}, []api.Joints{{2, 9, 0}, {11, -9, 9}}},
		{"the position of the two solutions, upwards", [3]int{1, 1, 1}, units(2, 1), up, []api.Joints{{0, 0, 9}}},
		{"the position of the two solutions, to the left", [3]int{1, 1, 1}, units(2, 1), left, nil},
		{"the position of the two solutions, downwards", [3]int{1, 1, 1}, units(2, 1), down, nil},
		{"the position of the two solutions, turned by 63 and 16", [3]int{1, 1, 1}, units(2, 1), api.Direction{X: 63 * 65 * 65, Y: 16 * 65 * 65, N: 3}, nil},
		{"one step off the grid to the right", [3]int{1, 1, 1}, plus(units(2, 1), pt(1, 0)), right, nil},
		{"one step off the grid downwards", [3]int{1, 1, 1}, plus(units(2, 1), pt(0, -1)), right, nil},
		{"16 steps aside", [3]int{1, 1, 1}, plus(units(2, 1), pt(0, 16)), right, nil},
		{"just beyond the reach", [3]int{1, 1, 1}, plus(units(3, 0), pt(16, 0)), right, nil},
		{"beyond the reach", [3]int{1, 1, 1}, units(4, 0), right, nil},
		{"beyond the reach of the first two links", [3]int{1, 1, 40}, units(2, 0), left, nil},
		{"too near for the first two links", [3]int{5, 1, 1}, units(4, 0), right, nil},
		{"the upper right end of the range", [3]int{40, 40, 16}, pt(far, far), right, nil},
		{"the lower left end of the range", [3]int{40, 40, 16}, pt(-far, -far), up, nil},
		{"a triangle with sides that no rotations have", [3]int{2, 2, 1}, units(3, 0), right, nil},
	} {
		checkSolve(t, x.what, free(pt(0, 0), x.lens), target{x.at, x.d}, x.want)
		base := units(-3, 2)
		checkSolve(t, x.what+", with another base", free(base, x.lens), target{plus(base, x.at), x.d}, x.want)
	}
}

// P8.1 (H1), P8.3: the third link starts at the base, with 36 solutions, with four, and with none for a direction that two rotations do not have.
func TestThirdLinkAtBaseExamples(t *testing.T) {
	var all []api.Joints
	for first := -17; first < 0; first++ {
		all = append(all, api.Joints{first, 18, -18 - first})
	}
	for first := 0; first <= 18; first++ {
		all = append(all, api.Joints{first, 18, 18 - first})
	}
	twice, thrice := turn(1)*turn(1)*65, turn(1)*turn(1)*turn(1)
	for _, x := range []struct {
		what string
		d    api.Direction
		want []api.Joints
	}{
		{"to the right", right, all},
		{"turned by twice 63 and 16", direction(twice), []api.Joints{{-17, 18, 1}, {-8, 18, -8}, {1, 18, -17}, {10, 18, 10}}},
		{"turned by three times 63 and 16", direction(thrice), nil},
	} {
		for _, a := range []api.Arm{example(), free(units(1, -1), [3]int{7, 7, 4})} {
			n := unit / length * a.Lens[2]
			checkSolve(t, x.what, a, target{plus(a.Base, pt(n*x.d.X, n*x.d.Y)), x.d}, x.want)
		}
	}
	a := free(pt(0, 0), [3]int{7, 8, 4})
	checkSolve(t, "links of different lengths", a, target{units(4, 0), right}, nil)
}

// P8.1, P8.5: limits that are written out: of one value, ones that exclude one of two solutions by each joint, and ones that exclude all.
func TestLimitsExamples(t *testing.T) {
	one, other := api.Joints{0, 9, -9}, api.Joints{9, -9, 0}
	both, none := []api.Joints{one, other}, []api.Joints{}
	for _, x := range []struct {
		low, high api.Joints
		want      []api.Joints
	}{
		{api.Joints{0, -9, -9}, api.Joints{9, 9, 0}, both},
		{api.Joints{0, -9, -9}, api.Joints{8, 9, 0}, []api.Joints{one}},
		{api.Joints{1, -9, -9}, api.Joints{9, 9, 0}, []api.Joints{other}},
		{api.Joints{0, -8, -9}, api.Joints{9, 9, 0}, []api.Joints{one}},
		{api.Joints{0, -9, -9}, api.Joints{9, 8, 0}, []api.Joints{other}},
		{api.Joints{0, -9, -9}, api.Joints{9, 9, -1}, []api.Joints{one}},
		{api.Joints{0, -9, -8}, api.Joints{9, 9, 0}, []api.Joints{other}},
		{api.Joints{0, -17, -17}, api.Joints{0, 18, 18}, []api.Joints{one}},
		{api.Joints{-17, -9, -17}, api.Joints{18, -9, 18}, []api.Joints{other}},
		{api.Joints{-17, -17, -9}, api.Joints{18, 18, -9}, []api.Joints{one}},
		{one, one, []api.Joints{one}},
		{other, other, []api.Joints{other}},
		{api.Joints{1, -17, -17}, api.Joints{8, 18, 18}, none},
		{api.Joints{10, -17, -17}, api.Joints{18, 18, 18}, none},
		{api.Joints{-17, -17, -17}, api.Joints{-1, 18, 18}, none},
		{api.Joints{-17, -8, -17}, api.Joints{18, 8, 18}, none},
		{api.Joints{-17, -17, -8}, api.Joints{18, 18, -1}, none},
		{api.Joints{-17, -17, 1}, api.Joints{18, 18, 18}, none},
		{api.Joints{0, 9, -8}, api.Joints{0, 9, -8}, none},
		{api.Joints{0, 8, -9}, api.Joints{0, 8, -9}, none},
		{api.Joints{1, 9, -9}, api.Joints{1, 9, -9}, none},
	} {
		checkSolve(t, "limits", limited(example(), x.low, x.high), target{units(2, 1), right}, x.want)
	}
	folded := target{units(1, 0), right}
	checkSolve(t, "three of 36", limited(example(), api.Joints{3, 18, -17}, api.Joints{5, 18, 18}), folded, []api.Joints{{3, 18, 15}, {4, 18, 14}, {5, 18, 13}})
	checkSolve(t, "one of 36", limited(example(), api.Joints{-17, -17, 18}, api.Joints{18, 18, 18}), folded, []api.Joints{{0, 18, 18}})
	checkSolve(t, "the first of 36", limited(example(), api.Joints{-17, 18, -1}, api.Joints{-17, 18, -1}), folded, []api.Joints{{-17, 18, -1}})
	checkSolve(t, "none of 36", limited(example(), api.Joints{-17, -17, -17}, api.Joints{18, 17, 18}), folded, nil)
}

// checkTargets compares Solve with an atlas for targets that several workers share.
func checkTargets(t *testing.T, a api.Arm, m atlas, l []target) {
	t.Helper()
	var wait sync.WaitGroup
	for part := range slices.Chunk(l, len(l)/8+1) {
		wait.Go(func() {
			for _, x := range part {
				if got := solve(a, x); !slices.Equal(got, m[x]) {
					t.Errorf("Solve(%v, %v) = %v, want %v", a, x, got, m[x])
					return
				}
			}
		})
	}
	wait.Wait()
	if t.Failed() {
		t.FailNow()
	}
}

// some returns every n-th element of a list, beginning with number i.
func some[E any](l []E, i, n int) []E {
	var part []E
	for i %= n; i < len(l); i += n {
		part = append(part, l[i])
	}
	return part
}

// P8.1 (H1), P8.2: the targets of all configurations of an arm, and of many configurations of others, with all their solutions in order.
func TestTargetsOfEveryConfiguration(t *testing.T) {
	a := example()
	m := atlasOf(a)
	checkTargets(t, a, m, m.targets(a))
	for i, a := range arms() {
		m := atlasOf(a)
		checkTargets(t, a, m, some(m.targets(a), i, 31))
	}
}

// P8.1, P8.2: solutions at both ends of the range of each joint, for all values of the others.
func TestSolutionsAtTheEndsOfTheRange(t *testing.T) {
	a := free(units(2, -5), [3]int{3, 4, 5})
	m := atlasOf(a)
	var l []target
	for _, q := range everyJoints(a) {
		ends := 0
		for _, value := range q {
			if value == -17 || value == 18 {
				ends++
			}
		}
		if ends >= 2 || ends == 1 && (q[0]+q[1]+q[2])%10 == 0 {
			l = append(l, reached(a, q))
		}
	}
	checkTargets(t, a, m, l)
}

// near returns targets near another one: steps aside in all directions, on the grid and off it, and other gripper directions at the same place.
func near(x target) []target {
	var l []target
	for _, n := range []int{1, -1, 16, -16, unit, -unit} {
		l = append(l, target{plus(x.at, pt(n, 0)), x.d}, target{plus(x.at, pt(0, n)), x.d}, target{plus(x.at, pt(n, n)), x.d})
	}
	for _, d := range []api.Direction{
		{X: -x.d.X, Y: -x.d.Y, N: 3}, {X: -x.d.Y, Y: x.d.X, N: 3}, {X: x.d.Y, Y: -x.d.X, N: 3}, {X: x.d.X, Y: -x.d.Y, N: 3}, {X: x.d.Y, Y: x.d.X, N: 3},
	} {
		l = append(l, target{x.at, d})
	}
	return l
}

// P8.1 (H1): targets of which most have no solution: near those of configurations, with all directions at points of a grid, and at the ends of the range.
func TestTargetsWithoutSolutions(t *testing.T) {
	r := rand.New(rand.NewSource(1))
	reachable, unreachable := 0, 0
	for i, a := range arms() {
		m := atlasOf(a)
		var l []target
		for _, x := range some(m.targets(a), i, 1009) {
			l = append(l, near(x)...)
		}
		for _, d := range directions() {
			at := plus(a.Base, units(drawIn(r, -3, 3), drawIn(r, -3, 3)))
			l = append(l, target{at, d}, target{pt(drawIn(r, -far, far), drawIn(r, -far, far)), d})
		}
		for _, x := range []int{far, -far} {
			l = append(l, target{pt(x, x), right}, target{pt(x, -x), up}, target{pt(x, a.Base.Y), left}, target{pt(a.Base.X, x), down})
		}
		checkTargets(t, a, m, l)
		for _, x := range l {
			if len(m[x]) > 0 {
				reachable++
			} else {
				unreachable++
			}
		}
	}
	if reachable < 50 || unreachable < 5000 {
		t.Errorf("%d targets were reachable and %d unreachable", reachable, unreachable)
	}
}

// P8.1 (H1): arms that are stretched out and folded back at the end of their reach, in all 36 directions.
func TestStretchedAndFoldedArms(t *testing.T) {
	for _, a := range arms() {
		m := atlasOf(a)
		var l []target
		for first := -17; first <= 18; first++ {
			for _, q := range []api.Joints{{first, 0, 0}, {first, 0, 18}, {first, 18, 0}, {first, 18, 18}} {
				x := reached(a, q)
				if !slices.Contains(m[x], q) {
					t.Fatalf("the atlas of %v does not lead from %v to %v", a, x, q)
				}
				l = append(l, x)
			}
		}
		checkTargets(t, a, m, l)
	}
}

// P8.2: every configuration within the limits is among the solutions for its own tip position and direction, and every solution is within the limits and reaches both, as package arm computes them.
func TestRoundTrip(t *testing.T) {
	r := rand.New(rand.NewSource(2))
	for range 4000 {
		a := drawLimits(r, drawArm(r))
		q := api.Joints{drawIn(r, a.Low[0], a.High[0]), drawIn(r, a.Low[1], a.High[1]), drawIn(r, a.Low[2], a.High[2])}
		at, d := arm.JointPoints(a, q)[3], arm.LinkDirections(a, q)[2]
		solutions := invkin.Solve(a, at, d)
		if !slices.Contains(solutions, q) {
			t.Fatalf("Solve(%v, %v, %v) = %v, without %v", a, at, d, solutions, q)
		}
		for _, s := range solutions {
			if !arm.InLimits(a, s) || arm.JointPoints(a, s)[3] != at || arm.LinkDirections(a, s)[2] != d {
				t.Fatalf("Solve(%v, %v, %v) = %v, which %v does not reach within the limits", a, at, d, solutions, s)
			}
		}
	}
}

// P8.1 (H1): solutions are sorted lexicographically, none of them twice.
func TestOrderOfSolutions(t *testing.T) {
	r := rand.New(rand.NewSource(3))
	several := 0
	forTargets(r, 4000, func(a api.Arm, x target) {
		solutions := solve(a, x)
		for i := 1; i < len(solutions); i++ {
			several++
			if slices.Compare(solutions[i-1][:], solutions[i][:]) >= 0 {
				t.Fatalf("Solve(%v, %v) = %v, which is not sorted", a, x, solutions)
			}
		}
	})
	if several < 1000 {
		t.Errorf("only %d pairs of solutions", several)
	}
}

// forTargets calls f n times with an arm and a target of it: any one, one with two solutions, or one for which the third link starts at the base.
func forTargets(r *rand.Rand, n int, f func(a api.Arm, x target)) {
	for i := range n {
		a := drawArm(r)
		q := drawJoints(r, -17, 18)
		switch i % 4 {
		case 1:
			// Links that are equally long and at a right angle, or turned by one of the rotations, can exchange their directions.
			a.Lens[0] = min(a.Lens[0], a.Lens[1])
			a.Lens[1] = a.Lens[0]
			q[1] = 9 - 18*r.Intn(2)
		case 2, 3:
			a.Lens[0] = min(a.Lens[0], a.Lens[1])
			a.Lens[1] = a.Lens[0]
			q[1] = 18
		}
		if i%4 == 3 {
			q[2] = (9*r.Intn(4)-q[0]+17+36)%36 - 17
		}
		f(a, reached(a, q))
	}
}

// P8.3: there are at most two solutions, unless the third link starts at the base; then there are at most 36. All these numbers occur.
func TestNumberOfSolutions(t *testing.T) {
	r := rand.New(rand.NewSource(4))
	seen, seenAtBase := map[int]int{}, map[int]int{}
	forTargets(r, 4000, func(a api.Arm, x target) {
		for _, x := range []target{x, near(x)[r.Intn(18)]} {
			n := len(solve(a, x))
			most := 2
			if wrist(a, x) == a.Base {
				most = 36
				seenAtBase[n]++
			} else {
				seen[n]++
			}
			if n > most {
				t.Fatalf("Solve(%v, %v) has %d solutions", a, x, n)
			}
		}
	})
	if min(seen[0], seen[1], seen[2], seenAtBase[36]) < 100 || len(seenAtBase) < 3 {
		t.Errorf("numbers of solutions: %v, with the third link at the base: %v", seen, seenAtBase)
	}
}

// P8.3: the third link starts at the base, in all directions, for first links of equal and of different lengths.
func TestThirdLinkAtBaseInAllDirections(t *testing.T) {
	if len(directions()) != 4*7*7 {
		t.Fatalf("there are %d directions", len(directions()))
	}
	for _, lens := range [][3]int{{1, 1, 1}, {20, 20, 7}, {6, 6, 40}, {6, 5, 4}} {
		a := free(units(-4, 3), lens)
		m := atlasOf(a)
		var l []target
		seen := map[int]int{}
		for _, d := range directions() {
			x := target{plus(a.Base, minus(a.Base, wrist(a, target{a.Base, d}))), d}
			l = append(l, x)
			seen[len(m[x])]++
			if wrist(a, x) != a.Base || len(m[x]) > 36 {
				t.Fatalf("%v at %v has %d solutions", a, x, len(m[x]))
			}
		}
		checkTargets(t, a, m, l)
		if lens[0] == lens[1] && (seen[36] != 4 || seen[0] == 0) || lens[0] != lens[1] && seen[0] != len(l) {
			t.Errorf("numbers of solutions of %v: %v", a, seen)
		}
	}
}

// P8.4: translating the base and the target by the same vector does not change the solutions.
func TestTranslatedBases(t *testing.T) {
	r := rand.New(rand.NewSource(5))
	forTargets(r, 3000, func(a api.Arm, x target) {
		a = drawLimits(r, a)
		want := solve(a, x)
		steps := room(a) / 16
		for _, base := range []api.Point{pt(0, 0), pt(16*steps, -16*steps), pt(16*drawIn(r, -steps, steps), 16*drawIn(r, -steps, steps))} {
			by := minus(base, a.Base)
			there := a
			there.Base = base
			checkSolve(t, "translated", there, target{plus(x.at, by), x.d}, want)
		}
		if t.Failed() {
			t.FailNow()
		}
	})
}

// quarterTurned returns a target after a quarter turn about a point.
func quarterTurned(base api.Point, x target) target {
	v := minus(x.at, base)
	return target{plus(base, pt(-v.Y, v.X)), api.Direction{X: -x.d.Y, Y: x.d.X, N: 3}}
}

// P8.4: turning the target by a quarter turn about the base adds 9 to the first joint of every solution, for an arm whose first joint may have all values.
func TestQuarterTurns(t *testing.T) {
	r := rand.New(rand.NewSource(6))
	wrapped := 0
	forTargets(r, 3000, func(a api.Arm, x target) {
		a = drawLimits(r, a)
		a.Low[0], a.High[0] = -17, 18
		var want []api.Joints
		for _, q := range solve(a, x) {
			q[0] += 9
			if q[0] > 18 {
				q[0] -= 36
				wrapped++
			}
			want = append(want, q)
		}
		slices.SortFunc(want, func(p, q api.Joints) int { return slices.Compare(p[:], q[:]) })
		there := quarterTurned(a.Base, x)
		if rotation.RotateQuarter(minus(x.at, a.Base)) != minus(there.at, a.Base) {
			t.Fatalf("%v is not %v after a quarter turn about %v", there, x, a.Base)
		}
		checkSolve(t, "a quarter turn", a, there, want)
		if t.Failed() {
			t.FailNow()
		}
	})
	if wrapped < 300 {
		t.Errorf("only %d solutions wrapped around", wrapped)
	}
}

// checkNarrowed checks that narrower limits remove exactly the solutions that violate them, and returns how many remain and how many do not.
func checkNarrowed(t *testing.T, a api.Arm, x target, all []api.Joints, low, high api.Joints) (kept, removed int) {
	t.Helper()
	narrow := limited(a, low, high)
	var want []api.Joints
	for _, q := range all {
		if isInLimits(narrow, q) {
			want = append(want, q)
		}
	}
	checkSolve(t, "narrowed", narrow, x, want)
	if t.Failed() {
		t.FailNow()
	}
	return len(want), len(all) - len(want)
}

// P8.5: limits just at and just beyond each solution, from below and from above, of each joint.
func TestLimitsAroundSolutions(t *testing.T) {
	r := rand.New(rand.NewSource(7))
	kept, removed := 0, 0
	check := func(a api.Arm, x target, all []api.Joints, low, high api.Joints) {
		k, n := checkNarrowed(t, a, x, all, low, high)
		kept, removed = kept+k, removed+n
	}
	forTargets(r, 250, func(a api.Arm, x target) {
		all := solve(a, x)
		for _, q := range all[:min(3, len(all))] {
			check(a, x, all, q, q)
			for k := range 3 {
				for _, by := range []int{0, 1} {
					low, high := a.Low, a.High
					if low[k] = q[k] + by; low[k] <= 18 {
						check(a, x, all, low, a.High)
					}
					if high[k] = q[k] - by; high[k] >= -17 {
						check(a, x, all, a.Low, high)
					}
				}
				low, high := a.Low, a.High
				low[k], high[k] = q[k], q[k]
				check(a, x, all, low, high)
			}
		}
	})
	if min(kept, removed) < 1000 {
		t.Errorf("limits kept %d solutions and removed %d", kept, removed)
	}
}

// P8.5: random limits, narrowed twice, remove exactly the solutions that violate them.
func TestNarrowedLimits(t *testing.T) {
	r := rand.New(rand.NewSource(8))
	kept, removed := 0, 0
	forTargets(r, 3000, func(a api.Arm, x target) {
		all := solve(a, x)
		for range 2 {
			b := drawLimits(r, a)
			for k := range 3 {
				b.Low[k] = min(max(b.Low[k], a.Low[k]), a.High[k])
				b.High[k] = max(min(b.High[k], a.High[k]), b.Low[k])
			}
			k, n := checkNarrowed(t, a, x, all, b.Low, b.High)
			kept, removed = kept+k, removed+n
			a, all = b, solve(b, x)
		}
	})
	if min(kept, removed) < 1000 {
		t.Errorf("limits kept %d solutions and removed %d", kept, removed)
	}
}

// P8.1 (H2): distances that are written out.
func TestDistanceExamples(t *testing.T) {
	least, most := api.Joints{-1000, -1000, -1000}, api.Joints{1000, 1000, 1000}
	for _, x := range []struct {
		a, b api.Joints
		want int
	}{
		{api.Joints{1, 2, 3}, api.Joints{0, 4, 3}, 3},
		{api.Joints{}, api.Joints{}, 0},
		{api.Joints{-17, 18, 4}, api.Joints{-17, 18, 4}, 0},
		{api.Joints{1, 2, 3}, api.Joints{2, 2, 3}, 1},
		{api.Joints{1, 2, 3}, api.Joints{1, -2, 3}, 4},
		{api.Joints{1, 2, 3}, api.Joints{1, 2, 10}, 7},
		{api.Joints{-17, 0, 0}, api.Joints{18, 0, 0}, 35},
		{api.Joints{1, 2, 3}, api.Joints{3, 1, 3}, 3},
		{api.Joints{1, 2, 3}, api.Joints{-1, 2, 2}, 3},
		{api.Joints{1, 2, 3}, api.Joints{1, 4, 8}, 7},
		{api.Joints{1, 2, 3}, api.Joints{3, 2, 1}, 4},
		{api.Joints{1, 2, 3}, api.Joints{-3, 0, 13}, 16},
		{api.Joints{-17, -17, -17}, api.Joints{18, 18, 18}, 105},
		{least, least, 0},
		{most, most, 0},
		{least, most, 6000},
		{api.Joints{-1000, 1000, -1000}, api.Joints{1000, -1000, 1000}, 6000},
		{api.Joints{-1000, 0, 1000}, api.Joints{1000, 0, 1000}, 2000},
		{least, api.Joints{}, 3000},
	} {
		for _, order := range [][2]api.Joints{{x.a, x.b}, {x.b, x.a}} {
			if got := invkin.Distance(order[0], order[1]); got != x.want {
				t.Errorf("Distance(%v, %v) = %d, want %d", order[0], order[1], got, x.want)
			}
		}
	}
}

// checkMetric checks three joint values against P8.6 and H2.
func checkMetric(t *testing.T, a, b, c api.Joints) {
	t.Helper()
	ab := invkin.Distance(a, b)
	if ab != distance(a, b) {
		t.Fatalf("Distance(%v, %v) = %d, want %d", a, b, ab, distance(a, b))
	}
	if ab < 0 || (ab == 0) != (a == b) {
		t.Fatalf("Distance(%v, %v) = %d", a, b, ab)
	}
	if back := invkin.Distance(b, a); back != ab {
		t.Fatalf("Distance(%v, %v) = %d, but %d in reverse order", a, b, ab, back)
	}
	if detour := ab + invkin.Distance(b, c); invkin.Distance(a, c) > detour {
		t.Fatalf("the distance of %v and %v is larger than the sum %d by way of %v", a, c, detour, b)
	}
}

// P8.6: Distance is a metric: for all values at and near the ends of the range and 0, and for random ones.
func TestDistanceIsMetric(t *testing.T) {
	values := []int{-1000, 0, 1, 1000}
	var l []api.Joints
	for _, x := range values {
		for _, y := range values {
			for _, z := range values {
				l = append(l, api.Joints{x, y, z})
			}
		}
	}
	for _, a := range l {
		for _, b := range l {
			for _, c := range l {
				checkMetric(t, a, b, c)
			}
		}
	}
	r := rand.New(rand.NewSource(9))
	for i := range 100000 {
		most := []int{1, 2, 18, 1000}[i%4]
		checkMetric(t, drawJoints(r, -most, most), drawJoints(r, -most, most), drawJoints(r, -most, most))
	}
}

// P8.1 (H2), P8.6: lists that are written out: of none and one, with the closest element first, in the middle and last, and with elements equally close.
func TestNearestExamples(t *testing.T) {
	least, most := api.Joints{-1000, -1000, -1000}, api.Joints{1000, 1000, 1000}
	for _, x := range []struct {
		what string
		l    []api.Joints
		q    api.Joints
		want api.Joints
	}{
		{"one element", []api.Joints{{4, 5, 6}}, api.Joints{1, 2, 3}, api.Joints{4, 5, 6}},
		{"one zero element", []api.Joints{{}}, api.Joints{1, 2, 3}, api.Joints{}},
		{"the element itself", []api.Joints{{4, 5, 6}}, api.Joints{4, 5, 6}, api.Joints{4, 5, 6}},
		{"the closest first", []api.Joints{{0, 0, 1}, {0, 3, 0}, {2, 0, 0}}, api.Joints{}, api.Joints{0, 0, 1}},
		{"the closest in the middle", []api.Joints{{0, 3, 0}, {0, 0, 1}, {2, 0, 0}}, api.Joints{}, api.Joints{0, 0, 1}},
		{"the closest last", []api.Joints{{0, 3, 0}, {2, 0, 0}, {0, 0, 1}}, api.Joints{}, api.Joints{0, 0, 1}},
		{"two equally close ones", []api.Joints{{1, 2, 4}, {1, 2, 2}}, api.Joints{1, 2, 3}, api.Joints{1, 2, 4}},
		{"two equally close ones, in reverse order", []api.Joints{{1, 2, 2}, {1, 2, 4}}, api.Joints{1, 2, 3}, api.Joints{1, 2, 2}},
		{"all equally close", []api.Joints{{0, 2, 1}, {3, 0, 0}, {-1, -1, -1}, {0, 0, -3}}, api.Joints{}, api.Joints{0, 2, 1}},
		{"equally close first", []api.Joints{{0, 2, 0}, {-1, 1, 0}, {5, 5, 5}}, api.Joints{}, api.Joints{0, 2, 0}},
		{"equally close in the middle", []api.Joints{{5, 5, 5}, {-1, 1, 0}, {0, 2, 0}, {5, 5, 4}}, api.Joints{}, api.Joints{-1, 1, 0}},
		{"equally close last", []api.Joints{{5, 5, 5}, {5, 5, 4}, {0, 0, -2}, {0, 2, 0}}, api.Joints{}, api.Joints{0, 0, -2}},
		{"equally close first and last", []api.Joints{{2, 0, 0}, {5, 5, 4}, {0, 0, -2}}, api.Joints{}, api.Joints{2, 0, 0}},
		{"a second one as close as the first, and a third closer", []api.Joints{{2, 0, 0}, {0, 2, 0}, {0, 0, 1}}, api.Joints{}, api.Joints{0, 0, 1}},
		{"decreasing distances", []api.Joints{{9, 9, 9}, {8, 9, 9}, {8, 8, 9}, {8, 8, 8}}, api.Joints{}, api.Joints{8, 8, 8}},
		{"increasing distances", []api.Joints{{8, 8, 8}, {8, 8, 9}, {8, 9, 9}, {9, 9, 9}}, api.Joints{}, api.Joints{8, 8, 8}},
		{"the ends of the range", []api.Joints{least, most, {0, 0, 1}}, most, most},
		{"the farthest joint values", []api.Joints{least}, most, least},
		{"no wrapping around", []api.Joints{{-17, 0, 0}, {1, 0, 0}}, api.Joints{18, 0, 0}, api.Joints{1, 0, 0}},
	} {
		if got, ok := invkin.Nearest(x.l, x.q); !ok || got != x.want {
			t.Errorf("%s: Nearest(%v, %v) = %v, %v, want %v", x.what, x.l, x.q, got, ok, x.want)
		}
	}
}

// P2, P8.1 (H2): an empty list has no nearest element, and the result is the zero value.
func TestNearestOfNone(t *testing.T) {
	for _, l := range [][]api.Joints{nil, {}, make([]api.Joints, 0, 4), (&[3]api.Joints{{1, 2, 3}, {4, 5, 6}, {7, 8, 9}})[1:1]} {
		for _, q := range []api.Joints{{}, {1, 2, 3}, {1000, -1000, 1000}} {
			if got, ok := invkin.Nearest(l, q); ok || got != (api.Joints{}) {
				t.Errorf("Nearest(%v, %v) = %v, %v", l, q, got, ok)
			}
		}
	}
}

// P8.6: Nearest returns an element of its argument, no element is closer to q, and no earlier element is equally close.
func TestNearest(t *testing.T) {
	r := rand.New(rand.NewSource(10))
	places, ties := map[int]int{}, 0
	for i := range 100000 {
		most := []int{1, 2, 18, 1000}[i%4]
		q := drawJoints(r, -most, most)
		l := make([]api.Joints, 1+r.Intn(6))
		for j := range l {
			l[j] = drawJoints(r, -most, most)
		}
		got, ok := invkin.Nearest(l, q)
		place := slices.Index(l, got)
		if !ok || place < 0 {
			t.Fatalf("Nearest(%v, %v) = %v, %v", l, q, got, ok)
		}
		for j, other := range l {
			if distance(other, q) < distance(got, q) || j < place && distance(other, q) == distance(got, q) {
				t.Fatalf("Nearest(%v, %v) = %v, but %v comes first", l, q, got, other)
			}
			if j > place && distance(other, q) == distance(got, q) {
				ties++
			}
		}
		places[place]++
	}
	for place := range 6 {
		if places[place] < 1000 {
			t.Errorf("places of the nearest elements: %v", places)
		}
	}
	if ties < 10000 {
		t.Errorf("only %d later elements were equally close", ties)
	}
}

// P8.6: Nearest finds the solution that takes the fewest steps from other joints.
func TestNearestSolution(t *testing.T) {
	solutions := invkin.Solve(example(), units(2, 1), right)
	for _, x := range []struct{ q, want api.Joints }{
		{api.Joints{1, 7, -7}, api.Joints{0, 9, -9}},
		{api.Joints{7, -7, 1}, api.Joints{9, -9, 0}},
		{api.Joints{9, 0, -9}, api.Joints{0, 9, -9}},
	} {
		if got, ok := invkin.Nearest(solutions, x.q); !ok || got != x.want {
			t.Errorf("Nearest(%v, %v) = %v, %v, want %v", solutions, x.q, got, ok, x.want)
		}
	}
}

// P1: every call returns, also where the behavior is unspecified: for arms and directions that are not valid, for points out of range and for joint values of any size.
func TestEveryCallReturns(t *testing.T) {
	numbers := []int{math.MinInt, math.MinInt + 1, -1 << 32, -1001, -41, -18, -17, -1, 0, 1, 4, 18, 19, 41, 1001, 1 << 32, math.MaxInt - 1, math.MaxInt}
	r := rand.New(rand.NewSource(11))
	draw := func() int { return numbers[r.Intn(len(numbers))] }
	drawAll := func() api.Joints { return api.Joints{draw(), draw(), draw()} }
	for range 20000 {
		a := api.Arm{Base: pt(draw(), draw()), Lens: drawAll(), Wide: draw(), Low: drawAll(), High: drawAll()}
		d := api.Direction{X: draw(), Y: draw(), N: draw()}
		invkin.Solve(a, pt(draw(), draw()), d)
		invkin.Solve(a, pt(draw(), draw()), right)
		invkin.Distance(drawAll(), drawAll())
		invkin.Nearest([]api.Joints{drawAll(), drawAll(), drawAll()}, drawAll())
	}
	widest := limited(example(), api.Joints{math.MinInt, math.MinInt, math.MinInt}, api.Joints{math.MaxInt, math.MaxInt, math.MaxInt})
	invkin.Solve(widest, units(2, 1), right)
	for range 300 {
		a := limited(example(), api.Joints{-2, -2, -2}, api.Joints{2, 2, 2})
		invkin.Solve(a, pt(draw(), draw()), api.Direction{X: draw(), Y: draw(), N: draw()})
		invkin.Solve(a, units(1, 1), api.Direction{X: 1, N: draw()})
	}
}

// P3: the functions do not change their arguments, neither the elements of a list nor the memory behind it.
func TestArgumentsStay(t *testing.T) {
	r := rand.New(rand.NewSource(12))
	forTargets(r, 500, func(a api.Arm, x target) {
		arm1, target1 := a, x
		memory := []api.Joints{drawJoints(r, -9, 9), drawJoints(r, -9, 9), drawJoints(r, -9, 9), drawJoints(r, -9, 9), drawJoints(r, -9, 9)}
		before := slices.Clone(memory)
		q := drawJoints(r, -9, 9)
		q1 := q
		solve(a, x)
		invkin.Nearest(memory[:r.Intn(5)], q)
		invkin.Distance(memory[0], q)
		if a != arm1 || x != target1 || q != q1 || !slices.Equal(memory, before) {
			t.Fatalf("%v, %v, %v and %v became %v, %v, %v and %v", arm1, target1, q1, before, a, x, q, memory)
		}
	})
}

// P3: results are new memory: overwriting or extending one does not change a later one.
func TestResultsAreNew(t *testing.T) {
	x := target{units(1, 0), right}
	want := slices.Clone(solve(example(), x))
	for range 3 {
		got := solve(example(), x)
		if len(got) != 36 || !slices.Equal(got, want) {
			t.Fatalf("Solve(%v, %v) = %v after a result was overwritten, want %v", example(), x, got, want)
		}
		full := append(got, slices.Repeat([]api.Joints{{7, 7, 7}}, 36)...)
		for i := range full {
			full[i] = api.Joints{8, 8, 8}
		}
		for i := range got {
			got[i] = api.Joints{9, 9, 9}
		}
	}
}

// P3: results depend on the arguments only, not on other calls, in whatever order and at whatever time they are made.
func TestResultsDependOnArgumentsOnly(t *testing.T) {
	r := rand.New(rand.NewSource(13))
	type question struct {
		a         api.Arm
		x         target
		q         api.Joints
		solutions []api.Joints
		nearest   api.Joints
	}
	var questions []question
	forTargets(r, 600, func(a api.Arm, x target) {
		q := drawJoints(r, -17, 18)
		solutions := solve(a, x)
		nearest, _ := invkin.Nearest(solutions, q)
		questions = append(questions, question{a, x, q, solutions, nearest})
	})
	var wait sync.WaitGroup
	for worker := range 4 {
		order := rand.New(rand.NewSource(int64(worker))).Perm(len(questions))
		wait.Go(func() {
			for _, i := range order {
				x := questions[i]
				if got := solve(x.a, x.x); !slices.Equal(got, x.solutions) {
					t.Errorf("Solve(%v, %v) = %v, but %v before", x.a, x.x, got, x.solutions)
				}
				if got, ok := invkin.Nearest(x.solutions, x.q); !ok || got != x.nearest {
					t.Errorf("Nearest(%v, %v) = %v, %v, but %v before", x.solutions, x.q, got, ok, x.nearest)
				}
				if got := invkin.Distance(x.nearest, x.q); got != distance(x.nearest, x.q) {
					t.Errorf("Distance(%v, %v) = %d", x.nearest, x.q, got)
				}
			}
		})
	}
	wait.Wait()
}
