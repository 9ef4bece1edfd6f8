package arm_test

import (
	"math"
	"math/rand"
	"slices"
	"sync"
	"testing"

	"ambidexter/api"
	"ambidexter/arm"
	"ambidexter/geom"
	"ambidexter/polygon"
	"ambidexter/rotation"
)

// checkValid compares Valid with want.
func checkValid(t *testing.T, what string, a api.Arm, want bool) {
	t.Helper()
	if got := arm.Valid(a); got != want {
		t.Errorf("%s: Valid(%v) = %v, want %v", what, a, got, want)
	}
}

// P7.1 (G1): arms that are written out, valid ones and ones that break one condition by itself.
func TestValidExamples(t *testing.T) {
	for _, x := range []struct {
		what   string
		change func(a *api.Arm)
		want   bool
	}{
		{"the chapter's example", func(a *api.Arm) {}, true},
		{"a base of multiples of 16", func(a *api.Arm) { a.Base = pt(16, -16) }, true},
		{"a base with X of 1", func(a *api.Arm) { a.Base.X = 1 }, false},
		{"a base with X of -1", func(a *api.Arm) { a.Base.X = -1 }, false},
		{"a base with X of 8", func(a *api.Arm) { a.Base.X = 8 }, false},
		{"a base with X of -24", func(a *api.Arm) { a.Base.X = -24 }, false},
		{"a base with Y of 15", func(a *api.Arm) { a.Base.Y = 15 }, false},
		{"a base with Y of -17", func(a *api.Arm) { a.Base.Y = -17 }, false},
		{"a base with Y of -8", func(a *api.Arm) { a.Base.Y = -8 }, false},
		{"a base with Y of 40", func(a *api.Arm) { a.Base.Y = 40 }, false},
		{"links of 40 units", func(a *api.Arm) { a.Lens = [3]int{40, 40, 1} }, true},
		{"a first link of 0", func(a *api.Arm) { a.Lens[0] = 0 }, false},
		{"a second link of 0", func(a *api.Arm) { a.Lens[1] = 0 }, false},
		{"a third link of 0", func(a *api.Arm) { a.Lens[2] = 0 }, false},
		{"a link of -1", func(a *api.Arm) { a.Lens[1] = -1 }, false},
		{"a first link of 41", func(a *api.Arm) { a.Lens[0] = 41 }, false},
		{"a second link of 41", func(a *api.Arm) { a.Lens[1] = 41 }, false},
		{"a third link of 41", func(a *api.Arm) { a.Lens[2] = 41 }, false},
		{"a width of 4", func(a *api.Arm) { a.Wide = 4 }, true},
		{"a width of 0", func(a *api.Arm) { a.Wide = 0 }, false},
		{"a width of -1", func(a *api.Arm) { a.Wide = -1 }, false},
		{"a width of 5", func(a *api.Arm) { a.Wide = 5 }, false},
		{"equal limits", func(a *api.Arm) { a.Low, a.High = api.Joints{-17, 0, 18}, api.Joints{-17, 0, 18} }, true},
		{"a lower limit of -18", func(a *api.Arm) { a.Low[0] = -18 }, false},
		{"limits of -18", func(a *api.Arm) { a.Low[2], a.High[2] = -18, -18 }, false},
		{"an upper limit of 19", func(a *api.Arm) { a.High[1] = 19 }, false},
		{"limits of 19", func(a *api.Arm) { a.Low[0], a.High[0] = 19, 19 }, false},
		{"first limits in reverse order", func(a *api.Arm) { a.Low[0], a.High[0] = 1, 0 }, false},
		{"second limits in reverse order", func(a *api.Arm) { a.Low[1], a.High[1] = 18, 17 }, false},
		{"third limits in reverse order", func(a *api.Arm) { a.Low[2], a.High[2] = 18, -17 }, false},
		{"a reach of 100 units from the origin", func(a *api.Arm) { a.Lens, a.Wide = [3]int{40, 16, 40}, 4 }, true},
		{"a reach of 101 units from the origin", func(a *api.Arm) { a.Lens, a.Wide = [3]int{40, 17, 40}, 4 }, false},
		{"the largest reach", func(a *api.Arm) { a.Lens, a.Wide = [3]int{40, 40, 40}, 4 }, false},
		{"a reach of 100 units to the right", func(a *api.Arm) { a.Base.X = 96 * unit }, true},
		{"a reach of 100 units to the left", func(a *api.Arm) { a.Base.X = -96 * unit }, true},
		{"a reach of 100 units up", func(a *api.Arm) { a.Base.Y = 96 * unit }, true},
		{"a reach of 100 units down", func(a *api.Arm) { a.Base.Y = -96 * unit }, true},
		{"a reach just beyond to the right", func(a *api.Arm) { a.Base.X = 96*unit + 16 }, false},
		{"a reach just beyond to the left", func(a *api.Arm) { a.Base.X = -96*unit - 16 }, false},
		{"a reach just beyond upwards", func(a *api.Arm) { a.Base.Y = 96*unit + 16 }, false},
		{"a reach just beyond downwards", func(a *api.Arm) { a.Base.Y = -96*unit - 16 }, false},
	} {
		a := example()
		x.change(&a)
		checkValid(t, x.what, a, x.want)
	}
	checkValid(t, "the zero arm", api.Arm{}, false)
}

// P7.1 (G1): all small bases, as the only multiples of 16 are valid.
func TestValidForSmallBases(t *testing.T) {
	for x := -50; x <= 50; x++ {
		for y := -50; y <= 50; y++ {
			checkValid(t, "small base", at(example(), pt(x, y)), x%16 == 0 && y%16 == 0)
		}
	}
}

// P7.1 (G1): all lengths and widths within and around their bounds, of each link.
func TestValidForAllSizes(t *testing.T) {
	for n := -45; n <= 45; n++ {
		for k := range 3 {
			a := example()
			a.Lens[k] = n
			checkValid(t, "length", a, 1 <= n && n <= 40)
		}
		a := example()
		a.Wide = n
		checkValid(t, "width", a, 1 <= n && n <= 4)
	}
}

// P7.1 (G1): all pairs of limits within and around their bounds, of each joint.
func TestValidForAllLimits(t *testing.T) {
	for k := range 3 {
		for low := -40; low <= 40; low++ {
			for high := -40; high <= 40; high++ {
				a := example()
				a.Low[k], a.High[k] = low, high
				checkValid(t, "limits", a, -17 <= low && low <= high && high <= 18)
			}
		}
	}
}

// P7.1 (G1): for arms of all sizes, bases at which the reach is 100 units, just less and just more, in each coordinate.
func TestValidAtTheEndsOfTheReach(t *testing.T) {
	for x := 1; x <= 40; x += 3 {
		for y := 1; y <= 40; y += 3 {
			for z := 1; z <= 40; z += 3 {
				a := free(pt(0, 0), [3]int{x, y, z}, 1+(x+y+z)%4)
				r := room(a)
				for _, c := range []int{0, r - 16, r, r + 16, r + unit} {
					for _, base := range []api.Point{pt(c, 0), pt(-c, 0), pt(0, c), pt(0, -c), pt(c, -c)} {
						checkValid(t, "reach", at(a, base), max(c, -c) <= r)
					}
				}
			}
		}
	}
}

// extremes are numbers at the ends of int and in between whose products and sums wrap around.
func extremes() []int {
	return []int{
		math.MinInt, math.MinInt + 1, math.MinInt + 16, math.MinInt + far, math.MinInt + far - 4*unit,
		-1 << 62, -1 << 60, -1 << 32, -far - 16, 1 << 32, 1 << 60, 1 << 61, 1 << 62, 3 << 61,
		math.MaxInt - far, math.MaxInt - 31, math.MaxInt - 15, math.MaxInt - 1, math.MaxInt,
	}
}

// P7.1 (G1): Valid at arguments at the ends of int, where absolute values and sums wrap around.
func TestValidAtTheEndsOfInt(t *testing.T) {
	for _, n := range extremes() {
		for k := range 3 {
			for _, change := range []func(a *api.Arm){
				func(a *api.Arm) { a.Base.X = n },
				func(a *api.Arm) { a.Base.Y = n },
				func(a *api.Arm) { a.Base = pt(n, n) },
				func(a *api.Arm) { a.Lens[k] = n },
				func(a *api.Arm) { a.Lens[k], a.Lens[(k+1)%3] = n, -n },
				func(a *api.Arm) { a.Lens = [3]int{n, n, n} },
				func(a *api.Arm) { a.Wide = n },
				func(a *api.Arm) { a.Wide, a.Lens[k] = n, -n },
				func(a *api.Arm) { a.Low[k] = n },
				func(a *api.Arm) { a.High[k] = n },
				func(a *api.Arm) { a.Low[k], a.High[k] = n, n },
				func(a *api.Arm) { a.Low[k], a.High[k] = n, math.MaxInt },
				func(a *api.Arm) { a.Low[k], a.High[k] = math.MinInt, n },
			} {
				a := example()
				change(&a)
				checkValid(t, "at the ends of int", a, false)
			}
		}
	}
}

// P7.1 (G1): random valid arms, and the same ones with one number changed.
func TestValidForRandomArms(t *testing.T) {
	r := rand.New(rand.NewSource(1))
	seen := map[bool]int{}
	for range 30000 {
		a := drawArm(r)
		checkValid(t, "random arm", a, true)
		fields := []*int{&a.Base.X, &a.Base.Y, &a.Wide}
		for k := range 3 {
			fields = append(fields, &a.Lens[k], &a.Low[k], &a.High[k])
		}
		steps := []int{-16 * unit, -unit, -20, -16, -2, -1, 1, 2, 16, 20, unit, 16 * unit}
		*fields[r.Intn(len(fields))] += steps[r.Intn(len(steps))]
		checkValid(t, "changed arm", a, isValid(a))
		seen[isValid(a)]++
	}
	if min(seen[true], seen[false]) < 5000 {
		t.Errorf("numbers of valid and other arms: %v", seen)
	}
}

// checkInLimits compares InLimits with want.
func checkInLimits(t *testing.T, a api.Arm, q api.Joints, want bool) {
	t.Helper()
	if got := arm.InLimits(a, q); got != want {
		t.Errorf("InLimits(%v, %v) = %v, want %v", a, q, got, want)
	}
}

// P7.1 (G1): joints at, within and just beyond the limits, one joint at a time.
func TestInLimitsExamples(t *testing.T) {
	a := example()
	a.Low, a.High = api.Joints{-17, 0, 5}, api.Joints{-3, 0, 18}
	for _, x := range []struct {
		q    api.Joints
		want bool
	}{
		{api.Joints{-17, 0, 5}, true},
		{api.Joints{-3, 0, 18}, true},
		{api.Joints{-10, 0, 11}, true},
		{api.Joints{-17, 0, 18}, true},
		{api.Joints{-18, 0, 5}, false},
		{api.Joints{-2, 0, 5}, false},
		{api.Joints{19, 0, 5}, false},
		{api.Joints{-17, -1, 5}, false},
		{api.Joints{-17, 1, 5}, false},
		{api.Joints{-17, 36, 5}, false},
		{api.Joints{-17, 0, 4}, false},
		{api.Joints{-17, 0, 19}, false},
		{api.Joints{-17, 0, -18}, false},
		{api.Joints{0, 0, 0}, false},
	} {
		checkInLimits(t, a, x.q, x.want)
	}
}

// P7.1 (G1): all joint values within and around the limits of random arms.
func TestInLimitsForRandomArms(t *testing.T) {
	r := rand.New(rand.NewSource(2))
	seen := map[bool]int{}
	for range 3000 {
		a := drawArm(r)
		for k := range 3 {
			q := drawJoints(r, a)
			for q[k] = -40; q[k] <= 40; q[k]++ {
				want := isInLimits(a, q)
				checkInLimits(t, a, q, want)
				seen[want]++
			}
		}
		q := api.Joints{drawIn(r, -20, 20), drawIn(r, -20, 20), drawIn(r, -20, 20)}
		checkInLimits(t, a, q, isInLimits(a, q))
	}
	if min(seen[true], seen[false]) < 20000 {
		t.Errorf("numbers of joints within limits and others: %v", seen)
	}
}

// P7.1 (G1): only the limits count: InLimits is specified for arms that are not valid, too.
func TestInLimitsForArmsThatAreNotValid(t *testing.T) {
	wide := api.Arm{Low: api.Joints{math.MinInt, math.MinInt, math.MinInt}, High: api.Joints{math.MaxInt, math.MaxInt, math.MaxInt}}
	for _, n := range append(extremes(), -18, -17, 0, 18, 19) {
		for k := range 3 {
			q := api.Joints{5, 6, 7}
			q[k] = n
			checkInLimits(t, wide, q, true)
			checkInLimits(t, example(), q, -17 <= n && n <= 18)
			a := wide
			a.Low[k], a.High[k] = n, n
			checkInLimits(t, a, q, true)
			if n > math.MinInt {
				q[k] = n - 1
				checkInLimits(t, a, q, false)
			}
			if n < math.MaxInt {
				q[k] = n + 1
				checkInLimits(t, a, q, false)
			}
			a.Low[k], a.High[k] = math.MaxInt, math.MinInt
			checkInLimits(t, a, q, false)
			a.Low[k], a.High[k] = 7, 6
			for q[k] = 5; q[k] <= 8; q[k]++ {
				checkInLimits(t, a, q, false)
			}
		}
	}
	checkInLimits(t, api.Arm{}, api.Joints{}, true)
	checkInLimits(t, api.Arm{}, api.Joints{0, 0, 1}, false)
}

// directions are three directions of which the exponents are 1, 2 and 3.
func directions(x1, y1, x2, y2, x3, y3 int) [3]api.Direction {
	return [3]api.Direction{{X: x1, Y: y1, N: 1}, {X: x2, Y: y2, N: 2}, {X: x3, Y: y3, N: 3}}
}

// P7.1 (G2): directions that are written out.
func TestLinkDirectionsExamples(t *testing.T) {
	const p, pp = 65 * 65, 65 * 65 * 65
	for _, x := range []struct {
		q    api.Joints
		want [3]api.Direction
	}{
		{api.Joints{0, 0, 0}, directions(65, 0, p, 0, pp, 0)},
		{api.Joints{9, 0, -9}, directions(0, 65, 0, p, pp, 0)},
		{api.Joints{9, 9, 9}, directions(0, 65, -p, 0, 0, -pp)},
		{api.Joints{18, 18, 18}, directions(-65, 0, p, 0, -pp, 0)},
		{api.Joints{1, 0, 0}, directions(63, 16, 4095, 1040, 266175, 67600)},
		{api.Joints{0, 1, 0}, directions(65, 0, 4095, 1040, 266175, 67600)},
		{api.Joints{0, 0, 1}, directions(65, 0, p, 0, 266175, 67600)},
		{api.Joints{0, 0, -1}, directions(65, 0, p, 0, 266175, -67600)},
		{api.Joints{1, 1, 1}, directions(63, 16, 3713, 2016, 201663, 186416)},
		{api.Joints{-17, 4, 18}, directions(-63, -16, -2652, -3289, 172380, 213785)},
	} {
		if got := arm.LinkDirections(example(), x.q); got != x.want {
			t.Errorf("LinkDirections(%v) = %v, want %v", x.q, got, x.want)
		}
	}
}

// P7.1 (G2): points that are written out, among them the chapter's examples.
func TestJointPointsExamples(t *testing.T) {
	const u = unit
	for _, x := range []struct {
		what string
		a    api.Arm
		q    api.Joints
		want [4]api.Point
	}{
		{"the chapter's first example", example(), api.Joints{0, 0, 0}, [4]api.Point{pt(0, 0), pt(u, 0), pt(2*u, 0), pt(3*u, 0)}},
		{"the chapter's second example", example(), api.Joints{9, 0, -9}, [4]api.Point{pt(0, 0), pt(0, u), pt(0, 2*u), pt(u, 2*u)}},
		{"another base", at(example(), pt(-16, 32)), api.Joints{9, 0, -9}, [4]api.Point{pt(-16, 32), pt(-16, u+32), pt(-16, 2*u+32), pt(u-16, 2*u+32)}},
		{"different lengths", free(pt(0, 0), [3]int{5, 3, 2}, 4), api.Joints{0, 9, 9}, [4]api.Point{pt(0, 0), pt(5*u, 0), pt(5*u, 3*u), pt(3*u, 3*u)}},
		{"all joints at half a turn", free(pt(0, 0), [3]int{5, 3, 2}, 4), api.Joints{18, 18, 18}, [4]api.Point{pt(0, 0), pt(-5*u, 0), pt(-2*u, 0), pt(-4*u, 0)}},
		{"a rotation of 63 and 16", free(pt(0, 0), [3]int{5, 3, 2}, 4), api.Joints{1, 0, 0}, [4]api.Point{pt(0, 0), pt(u*63/13, u*16/13), pt(u*8*63/65, u*8*16/65), pt(u*126/13, u*32/13)}},
		{"its opposite", free(pt(0, 0), [3]int{5, 3, 2}, 4), api.Joints{-1, 1, 0}, [4]api.Point{pt(0, 0), pt(u*63/13, -u*16/13), pt(u*63/13+3*u, -u*16/13), pt(u*63/13+5*u, -u*16/13)}},
		{"three rotations of 63 and 16", example(), api.Joints{1, 1, 1}, [4]api.Point{pt(0, 0), pt(4258800, 1081600), pt(4258800+3861520, 1081600+2096640), pt(4258800+3861520+3226608, 1081600+2096640+2982656)}},
		{"the reach of 100 units", free(pt(0, 0), [3]int{40, 40, 16}, 4), api.Joints{-9, 0, 0}, [4]api.Point{pt(0, 0), pt(0, -40*u), pt(0, -80*u), pt(0, -96*u)}},
	} {
		if got := arm.JointPoints(x.a, x.q); got != x.want {
			t.Errorf("%s: JointPoints(%v, %v) = %v, want %v", x.what, x.a, x.q, got, x.want)
		}
	}
}

// box is a polygon with four corners in units.
func box(x1, y1, x2, y2, x3, y3, x4, y4 int) api.Polygon {
	return api.Polygon{pt(unit*x1, unit*y1), pt(unit*x2, unit*y2), pt(unit*x3, unit*y3), pt(unit*x4, unit*y4)}
}

// equalBodies reports whether two lists of bodies are equal.
func equalBodies(a, b [3]api.Polygon) bool {
	return slices.Equal(a[0], b[0]) && slices.Equal(a[1], b[1]) && slices.Equal(a[2], b[2])
}

// P7.1 (G3): bodies that are written out, with their corners in order.
func TestLinkPolygonsExamples(t *testing.T) {
	for _, x := range []struct {
		what string
		a    api.Arm
		q    api.Joints
		want [3]api.Polygon
	}{
		{"a stretched arm", example(), api.Joints{0, 0, 0}, [3]api.Polygon{
			box(0, -1, 1, -1, 1, 1, 0, 1), box(1, -1, 2, -1, 2, 1, 1, 1), box(2, -1, 3, -1, 3, 1, 2, 1)}},
		{"the chapter's second example", example(), api.Joints{9, 0, -9}, [3]api.Polygon{
			box(1, 0, 1, 1, -1, 1, -1, 0), box(1, 1, 1, 2, -1, 2, -1, 1), box(0, 1, 1, 1, 1, 3, 0, 3)}},
		{"different lengths", free(pt(unit, -unit), [3]int{5, 3, 2}, 4), api.Joints{0, 9, 9}, [3]api.Polygon{
			box(1, -5, 6, -5, 6, 3, 1, 3), box(10, -1, 10, 2, 2, 2, 2, -1), box(6, 6, 4, 6, 4, -2, 6, -2)}},
		{"links as long as wide", free(pt(0, 0), [3]int{8, 8, 8}, 4), api.Joints{18, -9, 18}, [3]api.Polygon{
			box(0, 4, -8, 4, -8, -4, 0, -4), box(-4, 0, -4, 8, -12, 8, -12, 0), box(-12, 8, -12, 0, -4, 0, -4, 8)}},
		{"a rotation of 63 and 16", free(pt(0, 0), [3]int{1, 1, 1}, 2), api.Joints{1, 17, 18}, [3]api.Polygon{
			{pt(2163200, -8517600), pt(6422000, -7436000), pt(2095600, 9599200), pt(-2163200, 8517600)},
			{pt(4258800, 1081600+8788000), pt(-135200, 1081600+8788000), pt(-135200, 1081600-8788000), pt(4258800, 1081600-8788000)},
			{pt(-135200, 1081600-8788000), pt(4258800, 1081600-8788000), pt(4258800, 1081600+8788000), pt(-135200, 1081600+8788000)}}},
	} {
		if got := arm.LinkPolygons(x.a, x.q); !equalBodies(got, x.want) {
			t.Errorf("%s: LinkPolygons(%v, %v) = %v, want %v", x.what, x.a, x.q, got, x.want)
		}
	}
}

// checkPose compares directions, points and bodies with G2 and G3.
func checkPose(t *testing.T, a api.Arm, q api.Joints) {
	t.Helper()
	want := poseOf(a, q)
	if got := arm.LinkDirections(a, q); got != want.directions {
		t.Fatalf("LinkDirections(%v, %v) = %v, want %v", a, q, got, want.directions)
	}
	if got := arm.JointPoints(a, q); got != want.points {
		t.Fatalf("JointPoints(%v, %v) = %v, want %v", a, q, got, want.points)
	}
	if got := arm.LinkPolygons(a, q); !equalBodies(got, want.bodies) {
		t.Fatalf("LinkPolygons(%v, %v) = %v, want %v", a, q, got, want.bodies)
	}
}

// P7.1 (G2, G3): all joint values of two arms, many of all others, and random ones.
func TestPoses(t *testing.T) {
	if len(rotations()) != 36 {
		t.Fatalf("there are %d rotations", len(rotations()))
	}
	for _, q := range everyJoints(example()) {
		checkPose(t, free(pt(16, -48), [3]int{3, 2, 1}, 1), q)
		checkPose(t, free(pt(0, 0), [3]int{16, 40, 40}, 4), q)
	}
	for _, a := range arms() {
		for i, q := range manyJoints() {
			if i%7 == total(a)%7 {
				checkPose(t, a, q)
			}
		}
	}
	r := rand.New(rand.NewSource(3))
	for range 50000 {
		a := drawArm(r)
		checkPose(t, a, drawJoints(r, a))
	}
}

// P7.1 (G2, G3): the results are those that the functions of the lower layers compose.
func TestPosesAreComposedOfLowerLayers(t *testing.T) {
	r := rand.New(rand.NewSource(4))
	for range 30000 {
		a := drawArm(r)
		q := drawJoints(r, a)
		directions, points, bodies := arm.LinkDirections(a, q), arm.JointPoints(a, q), arm.LinkPolygons(a, q)
		if points[0] != a.Base {
			t.Fatalf("JointPoints(%v, %v) = %v", a, q, points)
		}
		before := api.Direction{X: 1}
		for k, d := range directions {
			if d != rotation.Compose(before, q[k]) || !rotation.ValidDirection(d) {
				t.Fatalf("LinkDirections(%v, %v) = %v", a, q, directions)
			}
			before = d
			if points[k+1] != geom.Add(points[k], rotation.Offset(d, a.Lens[k])) {
				t.Fatalf("JointPoints(%v, %v) = %v", a, q, points)
			}
			side := rotation.RotateQuarter(rotation.Offset(d, a.Wide))
			want := api.Polygon{geom.Sub(points[k], side), geom.Sub(points[k+1], side), geom.Add(points[k+1], side), geom.Add(points[k], side)}
			if !polygon.Equal(bodies[k], want) {
				t.Fatalf("LinkPolygons(%v, %v) = %v", a, q, bodies)
			}
		}
	}
}

// checkStep compares StepJoint with want, where nil stands for a failure.
func checkStep(t *testing.T, a api.Arm, q api.Joints, joint, by int, want *api.Joints) {
	t.Helper()
	got, ok := arm.StepJoint(a, q, joint, by)
	if want == nil && (ok || got != api.Joints{}) || want != nil && (!ok || got != *want) {
		t.Fatalf("StepJoint(%v, %v, %d, %d) = %v, %v, want %v", a, q, joint, by, got, ok, want)
	}
}

// P7.1 (G4): steps that are written out: of each joint, in the middle and at both limits, joints -1 and 3, steps of 0 and 2.
func TestStepJointExamples(t *testing.T) {
	narrow := example()
	narrow.Low, narrow.High = api.Joints{-5, 3, 0}, api.Joints{-4, 5, 0}
	for _, x := range []struct {
		a         api.Arm
		q         api.Joints
		joint, by int
		want      *api.Joints
	}{
		{example(), api.Joints{0, 0, 0}, 0, 1, &api.Joints{1, 0, 0}},
		{example(), api.Joints{0, 0, 0}, 0, -1, &api.Joints{-1, 0, 0}},
		{example(), api.Joints{1, 2, 3}, 1, 1, &api.Joints{1, 3, 3}},
		{example(), api.Joints{1, 2, 3}, 1, -1, &api.Joints{1, 1, 3}},
		{example(), api.Joints{1, 2, 3}, 2, 1, &api.Joints{1, 2, 4}},
		{example(), api.Joints{1, 2, 3}, 2, -1, &api.Joints{1, 2, 2}},
		{example(), api.Joints{0, 0, 1}, 2, -1, &api.Joints{}},
		{example(), api.Joints{17, 17, 17}, 0, 1, &api.Joints{18, 17, 17}},
		{example(), api.Joints{18, 17, 17}, 0, 1, nil},
		{example(), api.Joints{-16, 0, 0}, 0, -1, &api.Joints{-17, 0, 0}},
		{example(), api.Joints{-17, 0, 0}, 0, -1, nil},
		{example(), api.Joints{0, 18, 0}, 1, 1, nil},
		{example(), api.Joints{0, -17, 0}, 1, -1, nil},
		{example(), api.Joints{0, 0, 18}, 2, 1, nil},
		{example(), api.Joints{0, 0, -17}, 2, -1, nil},
		{example(), api.Joints{18, 18, 18}, 1, -1, &api.Joints{18, 17, 18}},
		{example(), api.Joints{-17, -17, -17}, 2, 1, &api.Joints{-17, -17, -16}},
		{narrow, api.Joints{-5, 4, 0}, 0, 1, &api.Joints{-4, 4, 0}},
		{narrow, api.Joints{-4, 4, 0}, 0, 1, nil},
		{narrow, api.Joints{-4, 4, 0}, 0, -1, &api.Joints{-5, 4, 0}},
		{narrow, api.Joints{-5, 4, 0}, 0, -1, nil},
		{narrow, api.Joints{-5, 4, 0}, 1, 1, &api.Joints{-5, 5, 0}},
		{narrow, api.Joints{-5, 5, 0}, 1, 1, nil},
		{narrow, api.Joints{-5, 3, 0}, 1, -1, nil},
		{narrow, api.Joints{-5, 3, 0}, 2, 1, nil},
		{narrow, api.Joints{-5, 3, 0}, 2, -1, nil},
		{example(), api.Joints{1, 2, 3}, -1, 1, nil},
		{example(), api.Joints{1, 2, 3}, 3, 1, nil},
		{example(), api.Joints{1, 2, 3}, 3, -1, nil},
		{example(), api.Joints{1, 2, 3}, 0, 0, nil},
		{example(), api.Joints{1, 2, 3}, 1, 2, nil},
		{example(), api.Joints{1, 2, 3}, 2, -2, nil},
		{example(), api.Joints{1, 2, 3}, -1, 0, nil},
		{example(), api.Joints{1, 2, 3}, 3, 2, nil},
	} {
		checkStep(t, x.a, x.q, x.joint, x.by, x.want)
	}
}

// P7.1 (G4): all joints and steps within and around their bounds, and at the ends of int, from random joints.
func TestStepJointForAllJointsAndSteps(t *testing.T) {
	r := rand.New(rand.NewSource(5))
	joints := append(extremes(), -3, -2, -1, 0, 1, 2, 3, 4, 36)
	steps := append(extremes(), -36, -9, -3, -2, -1, 0, 1, 2, 3, 9, 36)
	seen := map[bool]int{}
	for range 3000 {
		a := drawArm(r)
		q := drawJoints(r, a)
		for _, joint := range joints {
			for _, by := range steps {
				var want *api.Joints
				if 0 <= joint && joint <= 2 && (by == 1 || by == -1) {
					there := q
					there[joint] += by
					if isInLimits(a, there) {
						want = &there
					}
					seen[want != nil]++
				}
				checkStep(t, a, q, joint, by, want)
			}
		}
	}
	if min(seen[true], seen[false]) < 1000 {
		t.Errorf("numbers of steps and failures: %v", seen)
	}
}

// forPoses calls f with arms of all sizes and with random ones, and joints within their limits.
func forPoses(f func(a api.Arm, q api.Joints)) {
	for _, a := range arms() {
		for i, q := range manyJoints() {
			if i%11 == total(a)%11 {
				f(a, q)
			}
		}
	}
	r := rand.New(rand.NewSource(6))
	for range 20000 {
		a := drawArm(r)
		f(a, drawJoints(r, a))
	}
}

// P7.2: each link has its length.
func TestLinksHaveTheirLengths(t *testing.T) {
	forPoses(func(a api.Arm, q api.Joints) {
		points := arm.JointPoints(a, q)
		for k, n := range a.Lens {
			if square(minus(points[k+1], points[k])) != n*unit*n*unit {
				t.Fatalf("JointPoints(%v, %v) = %v: link %d is not %d units long", a, q, points, k, n)
			}
		}
	})
}

// P7.2: each body is a valid polygon, a rectangle with the area that length and width imply and with both end points in the middle of its ends.
func TestBodiesAreRectangles(t *testing.T) {
	forPoses(func(a api.Arm, q api.Joints) {
		points := arm.JointPoints(a, q)
		for k, b := range arm.LinkPolygons(a, q) {
			if len(b) != 4 || !polygon.Valid(b) {
				t.Fatalf("body %d of LinkPolygons(%v, %v) is no valid polygon: %v", k, a, q, b)
			}
			if area := 2 * a.Lens[k] * 2 * a.Wide * unit * unit; polygon.DoubleArea(b) != area || cross(minus(b[2], b[0]), minus(b[3], b[1])) != area {
				t.Fatalf("body %d of LinkPolygons(%v, %v) has a wrong area: %v", k, a, q, b)
			}
			long, short := minus(b[1], b[0]), minus(b[2], b[1])
			if dot(long, short) != 0 || long != minus(b[2], b[3]) || square(short) != 4*a.Wide*unit*a.Wide*unit {
				t.Fatalf("body %d of LinkPolygons(%v, %v) is no rectangle of this width: %v", k, a, q, b)
			}
			if polygon.Locate(b, points[k]) != 0 || polygon.Locate(b, points[k+1]) != 0 {
				t.Fatalf("body %d of LinkPolygons(%v, %v) is %v, with ends not on its boundary", k, a, q, b)
			}
			if plus(b[0], b[3]) != scaled(points[k], 2) || plus(b[1], b[2]) != scaled(points[k+1], 2) {
				t.Fatalf("body %d of LinkPolygons(%v, %v) is %v, with ends not in the middle", k, a, q, b)
			}
		}
	})
}

// P7.2: all points and corners are valid and multiples of 16; some of them are at the ends of the cell.
func TestPointsAreValid(t *testing.T) {
	most := 0
	forPoses(func(a api.Arm, q api.Joints) {
		points := arm.JointPoints(a, q)
		bodies := arm.LinkPolygons(a, q)
		for _, p := range slices.Concat(points[:], bodies[0], bodies[1], bodies[2]) {
			if p.X%16 != 0 || p.Y%16 != 0 || max(p.X, -p.X, p.Y, -p.Y) > far {
				t.Fatalf("the point %v of %v at %v is not valid or no multiple of 16", p, a, q)
			}
			most = max(most, p.X, -p.X, p.Y, -p.Y)
		}
	})
	if most < far-4*unit {
		t.Errorf("no point has a coordinate of more than %d", most)
	}
}

// P7.2: the tool center point is no farther from the base than the sum of the lengths, and no nearer than the longest link exceeds the others.
func TestReachOfToolCenterPoint(t *testing.T) {
	farthest, nearest := 0, 0
	forPoses(func(a api.Arm, q api.Joints) {
		tool := minus(arm.JointPoints(a, q)[3], a.Base)
		most := total(a) * unit
		least := max(0, 2*slices.Max(a.Lens[:])*unit-most)
		if square(tool) > most*most || square(tool) < least*least {
			t.Fatalf("the tool center point of %v at %v is at %v from the base", a, q, tool)
		}
		if square(tool) == most*most {
			farthest++
		}
		if square(tool) == least*least {
			nearest++
		}
	})
	if min(farthest, nearest) < 100 {
		t.Errorf("the arm was stretched %d times and folded back %d times", farthest, nearest)
	}
}

// P7.2: joints that stretch the arm and joints that fold it back bring the tool center point to the ends of its range.
func TestStretchedAndFoldedArms(t *testing.T) {
	for _, a := range arms() {
		x, y, z := a.Lens[0], a.Lens[1], a.Lens[2]
		for first := -17; first <= 18; first++ {
			for _, c := range []struct {
				second, third, distance int
			}{
				{0, 0, x + y + z},
				{18, 0, x - y - z},
				{18, 18, x - y + z},
				{0, 18, x + y - z},
			} {
				q := api.Joints{first, c.second, c.third}
				tool := minus(arm.JointPoints(a, q)[3], a.Base)
				if want := scaled(turned(pt(unit/65, 0), first), c.distance); tool != want {
					t.Fatalf("the tool center point of %v at %v is at %v from the base, want %v", a, q, tool, want)
				}
			}
		}
	}
}

// later returns the points of an arm after point k and the corners of its last link.
func later(a api.Arm, q api.Joints, k int) []api.Point {
	points := arm.JointPoints(a, q)
	return append(slices.Clone(points[k+1:]), arm.LinkPolygons(a, q)[2]...)
}

// checkRotated checks that joint k moves the points of l to those of m about a pivot, when its value changes from one to the other.
func checkRotated(t *testing.T, pivot api.Point, l, m []api.Point, from, to int) {
	t.Helper()
	for i := range l {
		u, v := minus(l[i], pivot), minus(m[i], pivot)
		if turned(u, to) != turned(v, from) {
			t.Fatalf("the values %d and %d of a joint at %v bring a point to %v and to %v", from, to, pivot, l[i], m[i])
		}
		// The distances from each other and the pivot, and the orientations, do not change.
		for j := range l {
			w, x := minus(l[j], pivot), minus(m[j], pivot)
			if dot(u, w) != dot(v, x) || cross(u, w) != cross(v, x) {
				t.Fatalf("the values %d and %d of a joint at %v move %v and %v to %v and %v", from, to, pivot, l[i], l[j], m[i], m[j])
			}
		}
	}
}

// P7.3: changing joint k leaves points 0 to k in place, and moves all later points and the last link's corners rigidly about point k.
func TestJointsMoveLaterPointsRigidly(t *testing.T) {
	changes := 0
	forPoses(func(a api.Arm, q api.Joints) {
		before := arm.JointPoints(a, q)
		for k := range 3 {
			l := later(a, q, k)
			for _, value := range []int{a.Low[k], a.High[k], (a.Low[k] + a.High[k]) / 2, min(q[k]+1, a.High[k]), max(q[k]-5, a.Low[k])} {
				there := q
				there[k] = value
				after := arm.JointPoints(a, there)
				if !slices.Equal(before[:k+1], after[:k+1]) {
					t.Fatalf("joint %d of %v moves from %v to %v and the points from %v to %v", k, a, q, there, before, after)
				}
				checkRotated(t, before[k], l, later(a, there, k), q[k], value)
				if value != q[k] {
					changes++
				}
			}
		}
	})
	if changes < 100000 {
		t.Errorf("only %d changes of joints", changes)
	}
}

// P7.3: the same for all pairs of values of each joint.
func TestJointsMoveRigidlyForAllValues(t *testing.T) {
	a := free(pt(-160, 16*unit), [3]int{23, 17, 29}, 3)
	for k := range 3 {
		for from := -17; from <= 18; from++ {
			for to := -17; to <= 18; to++ {
				q := api.Joints{5, -12, 7}
				there := q
				q[k], there[k] = from, to
				before, after := arm.JointPoints(a, q), arm.JointPoints(a, there)
				if !slices.Equal(before[:k+1], after[:k+1]) {
					t.Fatalf("joint %d moves from %d to %d and the points from %v to %v", k, from, to, before, after)
				}
				checkRotated(t, before[k], later(a, q, k), later(a, there, k), from, to)
			}
		}
	}
}

// checkLaterDirections checks that the directions from joint k on, and the links in these directions, are equal for q and there.
func checkLaterDirections(t *testing.T, a api.Arm, q, there api.Joints, k int) {
	t.Helper()
	before, after := arm.LinkDirections(a, q), arm.LinkDirections(a, there)
	if !slices.Equal(before[k:], after[k:]) {
		t.Fatalf("the directions at %v and %v are %v and %v", q, there, before, after)
	}
	from, to := arm.JointPoints(a, q), arm.JointPoints(a, there)
	for j := k; j < 3; j++ {
		if minus(from[j+1], from[j]) != minus(to[j+1], to[j]) {
			t.Fatalf("the points of %v at %v and %v are %v and %v", a, q, there, from, to)
		}
	}
}

// P7.4: adding a multiple of 9 to one joint and subtracting it from the next one leaves all later directions unchanged.
func TestQuarterTurnsMoveToTheNextJoint(t *testing.T) {
	a := free(pt(0, 0), [3]int{3, 2, 5}, 1)
	seen := map[int]int{}
	for _, q := range everyJoints(a) {
		for k := range 2 {
			for n := -27; n <= 27; n += 9 {
				there := q
				there[k] += n
				there[k+1] -= n
				if n != 0 && isInLimits(a, there) {
					checkLaterDirections(t, a, q, there, k+1)
					seen[n]++
				}
			}
		}
	}
	for n := -27; n <= 27; n += 9 {
		if n != 0 && seen[n] < 1000 {
			t.Errorf("%d moved from one joint to the next only %d times", n, seen[n])
		}
	}
}

// P7.4: exchanging two consecutive joints leaves all later directions unchanged.
func TestConsecutiveJointsAreExchanged(t *testing.T) {
	a := free(pt(0, 0), [3]int{3, 2, 5}, 1)
	for _, q := range everyJoints(a) {
		for k := range 2 {
			there := q
			there[k], there[k+1] = q[k+1], q[k]
			checkLaterDirections(t, a, q, there, k+1)
		}
	}
}

// P7.4: translating the base translates all points, and with them the bodies.
func TestTranslatedBases(t *testing.T) {
	r := rand.New(rand.NewSource(7))
	forPoses(func(a api.Arm, q api.Joints) {
		steps := room(a) / 16
		there := at(a, pt(16*drawIn(r, -steps, steps), 16*drawIn(r, -steps, steps)))
		by := minus(there.Base, a.Base)
		from, to := arm.JointPoints(a, q), arm.JointPoints(there, q)
		for k := range from {
			if to[k] != plus(from[k], by) {
				t.Fatalf("JointPoints(%v, %v) = %v, but translated by %v: %v", a, q, from, by, to)
			}
		}
		bodies, others := arm.LinkPolygons(a, q), arm.LinkPolygons(there, q)
		for k := range bodies {
			if !polygon.Equal(others[k], polygon.Translate(bodies[k], by)) {
				t.Fatalf("LinkPolygons(%v, %v) = %v, but translated by %v: %v", a, q, bodies, by, others)
			}
		}
		if arm.LinkDirections(a, q) != arm.LinkDirections(there, q) {
			t.Fatalf("LinkDirections(%v, %v) depends on the base", a, q)
		}
	})
}

// P7.5: a step leads to joints within the limits and is undone by the opposite step, and a step beyond a limit fails, from all joints of an arm.
func TestStepsAreUndone(t *testing.T) {
	narrow := example()
	narrow.Low, narrow.High = api.Joints{-17, 3, 9}, api.Joints{-2, 3, 18}
	for _, a := range []api.Arm{example(), narrow} {
		for _, q := range everyJoints(a) {
			for joint := range 3 {
				for _, by := range []int{-1, 1} {
					there, ok := arm.StepJoint(a, q, joint, by)
					if atLimit := by < 0 && q[joint] == a.Low[joint] || by > 0 && q[joint] == a.High[joint]; ok == atLimit {
						t.Fatalf("StepJoint(%v, %v, %d, %d) = %v, %v", a, q, joint, by, there, ok)
					}
					if !ok {
						continue
					}
					if !arm.InLimits(a, there) || there == q {
						t.Fatalf("StepJoint(%v, %v, %d, %d) = %v", a, q, joint, by, there)
					}
					checkStep(t, a, there, joint, -by, &q)
				}
			}
		}
	}
}

// P7.5: a joint that steps in one direction passes all values up to its limit, one by one, and never wraps around.
func TestStepsEndAtTheLimits(t *testing.T) {
	r := rand.New(rand.NewSource(8))
	for range 2000 {
		a := drawArm(r)
		q := drawJoints(r, a)
		for joint := range 3 {
			for _, way := range []struct{ by, end int }{{1, a.High[joint]}, {-1, a.Low[joint]}, {1, a.High[joint]}} {
				for q[joint] != way.end {
					want := q
					want[joint] += way.by
					checkStep(t, a, q, joint, way.by, &want)
					q = want
				}
				for range 2 {
					checkStep(t, a, q, joint, way.by, nil)
				}
			}
		}
	}
}

// P7.5: random sequences of steps, which are undone in reverse order at the end.
func TestSequencesOfSteps(t *testing.T) {
	type step struct{ joint, by int }
	r := rand.New(rand.NewSource(9))
	done, failed := 0, 0
	for range 2000 {
		a := drawArm(r)
		q := drawJoints(r, a)
		start := q
		var steps []step
		for range 100 {
			s := step{r.Intn(3), 2*r.Intn(2) - 1}
			there, ok := arm.StepJoint(a, q, s.joint, s.by)
			want := q
			want[s.joint] += s.by
			if ok != isInLimits(a, want) || ok && there != want || !ok && there != (api.Joints{}) {
				t.Fatalf("StepJoint(%v, %v, %d, %d) = %v, %v", a, q, s.joint, s.by, there, ok)
			}
			if !ok {
				failed++
				continue
			}
			done++
			q, steps = there, append(steps, s)
		}
		for _, s := range slices.Backward(steps) {
			back, ok := arm.StepJoint(a, q, s.joint, -s.by)
			if !ok {
				t.Fatalf("StepJoint(%v, %v, %d, %d) fails", a, q, s.joint, -s.by)
			}
			q = back
		}
		if q != start {
			t.Fatalf("steps of %v from %v and back lead to %v", a, start, q)
		}
	}
	if min(done, failed) < 10000 {
		t.Errorf("%d steps succeeded and %d failed", done, failed)
	}
}

// P1: every call returns, also where the behavior is unspecified: for arms that are not valid and joints that are not within the limits.
func TestEveryCallReturns(t *testing.T) {
	numbers := append(extremes(), -41, -18, -1, 0, 1, 4, 19, 36, 41)
	r := rand.New(rand.NewSource(10))
	draw := func() int { return numbers[r.Intn(len(numbers))] }
	for range 20000 {
		a := api.Arm{Base: pt(draw(), draw()), Lens: [3]int{draw(), draw(), draw()}, Wide: draw()}
		a.Low, a.High = api.Joints{draw(), draw(), draw()}, api.Joints{draw(), draw(), draw()}
		q := api.Joints{draw(), draw(), draw()}
		arm.Valid(a)
		arm.InLimits(a, q)
		arm.LinkDirections(a, q)
		arm.JointPoints(a, q)
		arm.LinkPolygons(a, q)
		arm.StepJoint(a, q, draw(), draw())
		arm.StepJoint(a, q, r.Intn(3), 2*r.Intn(2)-1)
	}
}

// P2: a step that fails returns zero joints, whatever the reason is.
func TestFailureHasZeroValues(t *testing.T) {
	for _, q := range []api.Joints{{18, 18, 18}, {-17, -17, -17}, {1, 2, 3}} {
		for joint := -2; joint <= 4; joint++ {
			for by := -3; by <= 3; by++ {
				if got, ok := arm.StepJoint(example(), q, joint, by); !ok && got != (api.Joints{}) {
					t.Errorf("StepJoint(%v, %d, %d) fails and returns %v", q, joint, by, got)
				}
			}
		}
	}
}

// P3: the functions do not change their arguments.
func TestArgumentsStay(t *testing.T) {
	forPoses(func(a api.Arm, q api.Joints) {
		arm1, joints1 := a, q
		arm.Valid(a)
		arm.InLimits(a, q)
		arm.LinkDirections(a, q)
		arm.JointPoints(a, q)
		arm.LinkPolygons(a, q)
		arm.StepJoint(a, q, 0, 1)
		if a != arm1 || q != joints1 {
			t.Fatalf("%v and %v became %v and %v", arm1, joints1, a, q)
		}
	})
}

// P3: results are new memory: neither overwriting nor extending a body changes another body or a later result.
func TestResultsAreNew(t *testing.T) {
	a, q := free(pt(32, 48), [3]int{5, 3, 2}, 2), api.Joints{4, -11, 7}
	want := poseOf(a, q).bodies
	for k := range 3 {
		bodies := arm.LinkPolygons(a, q)
		full := append(bodies[k], slices.Repeat(api.Polygon{pt(1, 1)}, 12)...)
		for i := range full {
			full[i] = pt(-1, -1)
		}
		for i := range bodies[k] {
			bodies[k][i] = pt(1, 1)
		}
		for other := range 3 {
			if other != k && !slices.Equal(bodies[other], want[other]) {
				t.Errorf("body %d became %v with body %d", other, bodies[other], k)
			}
		}
		if got := arm.LinkPolygons(a, q); !equalBodies(got, want) {
			t.Errorf("LinkPolygons(%v, %v) = %v after a result was overwritten, want %v", a, q, got, want)
		}
	}
}

// P3: results depend on the arguments only, not on other calls, in whatever order and at whatever time they are made.
func TestResultsDependOnArgumentsOnly(t *testing.T) {
	r := rand.New(rand.NewSource(11))
	type question struct {
		a         api.Arm
		q         api.Joints
		joint, by int
	}
	var questions []question
	for range 2000 {
		a := drawArm(r)
		questions = append(questions, question{a, drawJoints(r, a), r.Intn(5) - 1, r.Intn(5) - 2})
	}
	var wait sync.WaitGroup
	for worker := range 4 {
		order := rand.New(rand.NewSource(int64(worker))).Perm(len(questions))
		wait.Go(func() {
			for _, i := range order {
				x := questions[i]
				want := poseOf(x.a, x.q)
				if arm.LinkDirections(x.a, x.q) != want.directions || arm.JointPoints(x.a, x.q) != want.points || !equalBodies(arm.LinkPolygons(x.a, x.q), want.bodies) {
					t.Errorf("the pose of %v at %v is not always the same", x.a, x.q)
				}
				there := x.q
				ok := 0 <= x.joint && x.joint <= 2 && (x.by == 1 || x.by == -1)
				if ok {
					there[x.joint] += x.by
					ok = isInLimits(x.a, there)
				}
				if got, done := arm.StepJoint(x.a, x.q, x.joint, x.by); done != ok || ok && got != there {
					t.Errorf("StepJoint(%v, %v, %d, %d) = %v, %v", x.a, x.q, x.joint, x.by, got, done)
				}
				if !arm.Valid(x.a) || !arm.InLimits(x.a, x.q) {
					t.Errorf("%v is not always valid, or %v not always within its limits", x.a, x.q)
				}
			}
		})
	}
	wait.Wait()
}
