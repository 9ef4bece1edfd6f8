package sweep_test

import (
	"math"
	"math/rand"
	"slices"
	"sync"
	"testing"

	"ambidexter/api"
	"ambidexter/hull"
	"ambidexter/polygon"
	"ambidexter/sweep"
)

// P6.1 (F1): outer points that are written out, among them the chapter's example.
func TestArcBoundExamples(t *testing.T) {
	const f = far
	for _, x := range []struct {
		what              string
		pivot, a, b, want api.Point
	}{
		{"the chapter's example", pt(0, 0), pt(32, 0), pt(0, 32), pt(18, 18)},
		{"all points equal", pt(5, -7), pt(5, -7), pt(5, -7), pt(5, -7)},
		{"the pivot in the middle between both ends", pt(0, 0), pt(100, -50), pt(-100, 50), pt(0, 0)},
		{"no motion", pt(0, 0), pt(16, -16), pt(16, -16), pt(18, -18)},
		{"the pivot elsewhere", pt(16, 32), pt(48, 32), pt(16, 64), pt(34, 50)},
		{"the pivot elsewhere, the ends at the origin", pt(16, -16), pt(0, 0), pt(0, 0), pt(-2, 2)},
		{"one end at the pivot", pt(-160, 160), pt(-160, 160), pt(0, 0), pt(-70, 70)},
		{"a sixteenth is left", pt(0, 0), pt(9, 0), pt(0, -9), pt(5, -5)},
		{"the least sums", pt(0, 0), pt(1, 0), pt(0, -1), pt(0, 0)},
		{"sums of two", pt(0, 0), pt(1, -1), pt(1, -1), pt(1, -1)},
		{"sums of fifteen", pt(0, 0), pt(8, -8), pt(7, -7), pt(8, -8)},
		{"sums of seven, about another pivot", pt(-100, 100), pt(-96, 96), pt(-97, 97), pt(-97, 97)},
		{"sums of opposite signs", pt(10, 10), pt(13, 7), pt(14, 6), pt(13, 7)},
		{"the truncated offsets, not the truncated sums", pt(1, -1), pt(0, 0), pt(0, 0), pt(0, 0)},
		{"from one end of the range to the other", pt(-f, f), pt(f, -f), pt(f/2, -f/2), pt(f/32*31, -f/32*31)},
		{"at an end of the range", pt(f, -f), pt(f-1, 1-f), pt(f-2, 2-f), pt(f-1, 1-f)},
		{"near the ends of the range, and no motion", pt(48822222, 48822222), pt(390577776, -341755554), pt(390577776, -341755554), pt(433297220, -390577776)},
	} {
		if got := sweep.ArcBound(x.pivot, x.a, x.b); got != x.want {
			t.Errorf("%s: ArcBound(%v, %v, %v) = %v, want %v", x.what, x.pivot, x.a, x.b, got, x.want)
		}
	}
}

// checkArcBound compares ArcBound with F1.
func checkArcBound(t *testing.T, pivot, a, b api.Point) {
	t.Helper()
	if got, want := sweep.ArcBound(pivot, a, b), outerPoint(pivot, a, b); got != want {
		t.Fatalf("ArcBound(%v, %v, %v) = %v, want %v", pivot, a, b, got, want)
	}
}

// P6.1 (F1): all small coordinates, and so all remainders of the division with both signs, in the one coordinate and in the other.
func TestArcBoundOfAllSmallCoordinates(t *testing.T) {
	for c := -12; c <= 12; c++ {
		for a := -20; a <= 20; a++ {
			for b := -20; b <= 20; b++ {
				checkArcBound(t, pt(c, -a), pt(a, b), pt(b, c))
				checkArcBound(t, pt(b, c), pt(-c, a), pt(a, b))
			}
		}
	}
}

// P6.1 (F1): random points near the origin, in the whole range and at its ends.
func TestArcBoundOfRandomPoints(t *testing.T) {
	r := rand.New(rand.NewSource(3))
	for i := range 30000 {
		m := drawMotion(r, 1, []func(r *rand.Rand) int{drawNear, drawFar, drawEnd}[i%3])
		checkArcBound(t, m.pivot, m.a[0], m.b[0])
	}
}

// P6.1 (F1): the division is exact if all coordinates are multiples of 16.
func TestArcBoundIsExactForMultiplesOfSixteen(t *testing.T) {
	r := rand.New(rand.NewSource(4))
	for i := range 30000 {
		m := drawMotion(r, 1, []func(r *rand.Rand) int{drawNear, drawFar}[i%2])
		m = m.mapped(func(c api.Point) api.Point { return pt(c.X/16*16, c.Y/16*16) })
		if !m.isSpecified() {
			continue
		}
		sum := plus(minus(m.a[0], m.pivot), minus(m.b[0], m.pivot))
		offset := minus(sweep.ArcBound(m.pivot, m.a[0], m.b[0]), m.pivot)
		if pt(16*offset.X, 16*offset.Y) != pt(9*sum.X, 9*sum.Y) {
			t.Fatalf("ArcBound(%v, %v, %v) is at %v from the pivot", m.pivot, m.a[0], m.b[0], offset)
		}
	}
}

// checkRegion compares Region with want, where nil stands for no region.
func checkRegion(t *testing.T, what string, m motion, want api.Polygon) {
	t.Helper()
	got, ok := sweep.Region(m.pivot, m.a, m.b)
	if !slices.Equal(got, want) || ok != (len(want) > 0) {
		t.Fatalf("%s: Region(%v, %v, %v) = %v, %v, want %v", what, m.pivot, m.a, m.b, got, ok, want)
	}
}

// P6.1 (F2): regions that are written out.
func TestRegionExamples(t *testing.T) {
	const f = far
	square := poly(-16, -16, 16, -16, 16, 16, -16, 16)
	triangle := poly(1040, 0, 2080, 0, 1040, 1040)
	turned := poly(1008, 256, 2016, 512, 752, 1264)
	swept := poly(752, 1264, 1040, 0, 2080, 0, 2304, 288, 1008, 1296)
	for _, x := range []struct {
		what string
		m    motion
		want api.Polygon
	}{
		{"a triangle turned by one joint step", motion{pt(0, 0), triangle, turned}, swept},
		{"the same in the opposite direction", motion{pt(0, 0), turned, triangle}, swept},
		{"the same with lists that begin elsewhere", motion{pt(0, 0), startingAt(triangle, 2), startingAt(turned, 2)}, swept},
		{"other pairs of corners", motion{pt(0, 0), triangle, startingAt(turned, 1)}, poly(752, 1264, 1040, 0, 2080, 0, 2016, 512)},
		{"equal squares about the middle", motion{pt(0, 0), square, square}, poly(-18, -18, 18, -18, 18, 18, -18, 18)},
		{"equal squares about a corner", motion{pt(-16, -16), square, square}, poly(-16, -16, 20, -16, 20, 20, -16, 20)},
		{"equal squares about a point outside", motion{pt(-32, 0), square, square}, poly(-16, -16, -14, -18, 22, -18, 22, 18, -14, 18, -16, 16)},
		{"equal squares about the middle of an edge", motion{pt(0, -16), square, square}, poly(-18, -16, 18, -16, 18, 20, -18, 20)},
		{"equal squares of which every outer point is a corner by truncation", motion{pt(0, 0), poly(-1, -1, 1, -1, 1, 1, -1, 1), poly(-1, -1, 1, -1, 1, 1, -1, 1)}, poly(-1, -1, 1, -1, 1, 1, -1, 1)},
		{"the same in reverse order", motion{pt(0, 0), poly(-1, 1, 1, 1, 1, -1, -1, -1), poly(-1, 1, 1, 1, 1, -1, -1, -1)}, poly(-1, -1, 1, -1, 1, 1, -1, 1)},
		{"one corner", motion{pt(0, 0), poly(32, 0), poly(0, 32)}, poly(0, 32, 32, 0, 18, 18)},
		{"two corners", motion{pt(0, 0), poly(16, 0, 32, 0), poly(0, 16, 0, 32)}, poly(0, 16, 16, 0, 32, 0, 18, 18, 0, 32)},
		{"two corners that stay", motion{pt(0, 0), poly(16, 0, 0, 16), poly(16, 0, 0, 16)}, poly(0, 16, 16, 0, 18, 0, 0, 18)},
		{"collinear corners that leave their line", motion{pt(0, 0), poly(16, 0, 32, 0, 48, 0), poly(16, 0, 32, 16, 48, 0)}, poly(16, 0, 54, 0, 32, 16)},
		{"a quarter turn of a square", motion{pt(0, 0), square, startingAt(square, 1)}, poly(-18, 0, -16, -16, 0, -18, 16, -16, 18, 0, 16, 16, 0, 18, -16, 16)},
		{"half a turn of a square, whose outer points are at the pivot", motion{pt(0, 0), square, startingAt(square, 2)}, square},
		{"at the ends of the range", motion{pt(-f, -f), poly(-f, -f, f/2, -f, -f, f/2), poly(-f, -f, f/2, -f, -f, f/2)}, poly(-f, -f, 302087500, -f, -f, 302087500)},
		{"all points in range", motion{pt(0, 0), poly(-f, -f, f, -f, f, f, -f, f), poly(f, f, -f, f, -f, -f, f, -f)}, poly(-f, -f, f, -f, f, f, -f, f)},
	} {
		checkRegion(t, x.what, x.m, x.want)
	}
}

// P6.1 (F2): motions of 0 to 12 corners near the origin, in the whole range and at its ends, some of them without a region.
func TestRegionOfRandomMotions(t *testing.T) {
	var with, without [13]int
	for _, m := range motions() {
		want := m.region()
		checkRegion(t, "random motion", m, want)
		if want == nil {
			without[len(m.a)]++
		} else {
			with[len(m.a)]++
		}
	}
	if slices.Min(with[1:]) < 200 || slices.Min(without[1:]) < 20 || without[0] < 200 {
		t.Errorf("numbers of regions by the number of corners: %v, and of motions without a region: %v", with, without)
	}
}

// P6.1 (F2): the region is the hull of the corners and of what ArcBound returns for each pair of them.
func TestRegionIsHullOfArcBounds(t *testing.T) {
	for _, m := range motions() {
		l := slices.Concat(m.a, m.b)
		for i, c := range m.a {
			l = append(l, sweep.ArcBound(m.pivot, c, m.b[i]))
		}
		want, _ := hull.Of(l)
		checkRegion(t, "hull", m, want)
	}
}

// P6.1 (F2): every single pair of corners counts, in the list of a, in that of b and for its outer point.
func TestEveryCornerCounts(t *testing.T) {
	for n := 1; n <= 12; n++ {
		for i := range n {
			m := motion{pivot: pt(0, 0), a: slices.Repeat(poly(16, 16), n), b: slices.Repeat(poly(16, 16), n)}
			m.a[i], m.b[i] = pt(160, -16), pt(-16, 160)
			want := poly(-16, 160, 16, 16, 160, -16, 81, 81)
			if n == 1 {
				want = poly(-16, 160, 160, -16, 81, 81)
			}
			checkRegion(t, "one corner that moves", m, want)
		}
	}
}

// arc returns n corners on a parabola, which form a strictly convex polygon.
func arc(n int) api.Polygon {
	var p api.Polygon
	for i := range n {
		p = append(p, pt(16*i, 16*i*i))
	}
	return p
}

// P6.1 (F2) and P2: there is no region for different numbers of corners, whatever their numbers are.
func TestNoRegionForDifferentNumbersOfCorners(t *testing.T) {
	for n := range 16 {
		for k := range 16 {
			m := motion{pivot: pt(-16, 0), a: arc(n), b: arc(k)}
			if n != k {
				checkRegion(t, "different numbers", m, nil)
			}
		}
	}
	square := poly(0, 0, 16, 0, 16, 16, 0, 16)
	for _, m := range []motion{
		{pt(0, 0), square, square[:3]},
		{pt(0, 0), square[:3], square},
		{pt(0, 0), square, nil},
		{pt(0, 0), api.Polygon{}, square},
		{pt(0, 0), arc(12), arc(13)},
		{pt(0, 0), arc(13), arc(12)},
		{pt(0, 0), arc(3), arc(200)},
		{pt(0, 0), arc(200), arc(3)},
	} {
		checkRegion(t, "different numbers", m, nil)
	}
}

// P6.1 (F2) and P2: 12 corners have a region, 13 and more do not, even if there are as many in both polygons and they are no corners of the hull.
func TestNoRegionForTooManyCorners(t *testing.T) {
	for n := 3; n <= 12; n++ {
		m := motion{pivot: pt(0, 0), a: arc(n), b: arc(n)}
		want := m.region()
		if want == nil {
			t.Errorf("there is no region for %d corners", n)
		}
		checkRegion(t, "12 corners or less", m, want)
	}
	for _, n := range []int{13, 14, 15, 20, 24, 25, 26, 40, 41, 100, 256, 300} {
		few := slices.Concat(poly(0, 0, 16, 0, 0, 16), slices.Repeat(poly(0, 0), n-3))
		for _, p := range []api.Polygon{arc(n), few, slices.Repeat(poly(16, 16), n)} {
			checkRegion(t, "too many corners", motion{pivot: pt(0, 0), a: p, b: p}, nil)
			checkRegion(t, "too many corners", motion{pivot: pt(160, 16), a: p, b: slices.Clone(p)}, nil)
		}
	}
}

// P6.1 (F2) and P2: there is no region if the points have no hull.
func TestNoRegionWithoutHull(t *testing.T) {
	const f = far
	for _, x := range []struct {
		what string
		m    motion
	}{
		{"nil", motion{pt(0, 0), nil, nil}},
		{"no corners", motion{pt(16, 16), api.Polygon{}, api.Polygon{}}},
		{"nil and no corners", motion{pt(f, -f), nil, api.Polygon{}}},
		{"no corners and nil", motion{pt(-f, f), api.Polygon{}, nil}},
		{"one corner that stays", motion{pt(0, 0), poly(16, 32), poly(16, 32)}},
		{"one corner at the pivot", motion{pt(16, 32), poly(16, 32), poly(16, 32)}},
		{"one corner that moves to the opposite one", motion{pt(0, 0), poly(16, 32), poly(-16, -32)}},
		{"one corner that moves to the pivot", motion{pt(0, 0), poly(16, 32), poly(0, 0)}},
		{"two corners that stay, on a line with the pivot", motion{pt(0, 0), poly(16, 32, 32, 64), poly(16, 32, 32, 64)}},
		{"two corners that are exchanged, on a line with the pivot", motion{pt(0, 0), poly(16, 32, 32, 64), poly(32, 64, 16, 32)}},
		{"all points equal", motion{pt(7, 8), slices.Repeat(poly(7, 8), 12), slices.Repeat(poly(7, 8), 12)}},
		{"all corners equal, at an end of the range", motion{pt(f, f), slices.Repeat(poly(f-16, f-32), 5), slices.Repeat(poly(f-16, f-32), 5)}},
		{"a horizontal line", motion{pt(0, 5), poly(1, 5, 2, 5, 9, 5), poly(3, 5, 4, 5, 7, 5)}},
		{"a vertical line", motion{pt(5, 0), poly(5, 1, 5, 2, 5, 9), poly(5, -3, 5, -4, 5, -7)}},
		{"a diagonal", motion{pt(-3, -3), poly(1, 1, 2, 2, 8, 8), poly(3, 3, 4, 4, 9, 9)}},
		{"the other diagonal of the range", motion{pt(0, 0), poly(-f, f, f, -f, 1, -1), poly(f, -f, -f, f, -1, 1)}},
		{"a flat line through the pivot", motion{pt(16, 0), poly(48, 16, 80, 32, -16, -16), poly(48, 16, 112, 48, 16, 0)}},
		{"a line below the pivot to which truncation brings the outer points", motion{pt(0, 1), poly(0, 0, 16, 0, 32, 0), poly(0, 0, 0, 0, 0, 0)}},
		{"a line above the pivot to which truncation brings the outer points", motion{pt(0, -1), poly(0, 0, 16, 0, 32, 0), poly(0, 0, 0, 0, 0, 0)}},
	} {
		checkRegion(t, x.what, x.m, nil)
	}
}

// P6.2: the region is strictly convex and contains all corners of both polygons.
func TestRegionContainsBothPolygons(t *testing.T) {
	seen := 0
	for _, m := range slices.Concat(motions(), swings()) {
		p, ok := sweep.Region(m.pivot, m.a, m.b)
		if !ok {
			continue
		}
		seen++
		if !isConvex(p) || !hull.IsConvex(p) {
			t.Fatalf("Region(%v, %v, %v) = %v is not convex", m.pivot, m.a, m.b, p)
		}
		if !containsAll(p, m.a) || !containsAll(p, m.b) {
			t.Fatalf("Region(%v, %v, %v) = %v misses a corner", m.pivot, m.a, m.b, p)
		}
	}
	if seen < 10000 {
		t.Errorf("there are only %d regions", seen)
	}
}

// isMultiple reports whether all coordinates of l are multiples of 16.
func isMultiple(l []api.Point) bool {
	return !slices.ContainsFunc(l, func(c api.Point) bool { return c.X%16 != 0 || c.Y%16 != 0 })
}

// isSmallRotation reports whether b is the image of a under a rotation about the pivot: whether the products of the corners' vectors are equal. The cosine of its angle has to be at least 24/25.
func isSmallRotation(m motion) bool {
	for i, c := range m.a {
		u, v := minus(c, m.pivot), minus(m.b[i], m.pivot)
		if !isNotAbove(24, square(u), 25, dot(u, v)) {
			return false
		}
		for k, d := range m.a {
			w, x := minus(d, m.pivot), minus(m.b[k], m.pivot)
			if dot(u, w) != dot(v, x) || cross(u, w) != cross(v, x) {
				return false
			}
		}
	}
	return true
}

// The tests of P6.3 make sense for small rotations only. They have to contain all positions of the pivot, both directions and the largest angle.
func TestSwingsAreSmallRotations(t *testing.T) {
	where, direction, corners := map[int]int{}, map[bool]int{}, [13]int{}
	largest, atTheEnds := 0, 0
	for _, m := range swings() {
		if !isMultiple(append(slices.Concat(m.a, m.b), m.pivot)) || !isSmallRotation(m) || !m.isSpecified() || !polygon.Valid(m.a) || !polygon.Valid(m.b) {
			t.Fatalf("the motion of %v to %v about %v is no small rotation", m.a, m.b, m.pivot)
		}
		where[polygon.Locate(m.a, m.pivot)]++
		corners[len(m.a)]++
		k := 0
		for m.a[k] == m.pivot {
			k++
		}
		u, v := minus(m.a[k], m.pivot), minus(m.b[k], m.pivot)
		if cross(u, v) != 0 {
			direction[cross(u, v) > 0]++
		}
		if isNotAbove(25, dot(u, v), 24, square(u)) {
			largest++
		}
		if !isInRange(moved(m.points(), pt(17, 17))) || !isInRange(moved(m.points(), pt(-17, -17))) {
			atTheEnds++
		}
	}
	if min(where[-1], where[0], where[1], direction[true], direction[false], largest, atTheEnds, corners[3], corners[12]) < 300 {
		t.Errorf("too few motions of some kind: %v %v %v %v %v", where, direction, corners, largest, atTheEnds)
	}
}

// P6.3: the whole arc of every corner lies in the region, for rotations in both directions about a pivot inside, on the boundary of and outside the polygon.
func TestRegionContainsArcs(t *testing.T) {
	needed := 0
	for _, m := range swings() {
		p, ok := sweep.Region(m.pivot, m.a, m.b)
		if !ok {
			t.Fatalf("there is no Region(%v, %v, %v)", m.pivot, m.a, m.b)
		}
		ends := wrap(slices.Concat(m.a, m.b))
		for i, c := range m.a {
			if !isInConvex(p, c) || !isInConvex(p, m.b[i]) || !isArcIn(p, m.pivot, c, m.b[i]) {
				t.Fatalf("Region(%v, %v, %v) = %v misses the arc of corner %d", m.pivot, m.a, m.b, p, i)
			}
			if !isArcIn(ends, m.pivot, c, m.b[i]) {
				needed++
			}
		}
	}
	if needed < 5000 {
		t.Errorf("only %d arcs leave the hull of their ends", needed)
	}
}

// P6.3: the same for the rotations by one joint step, about all points of a grid.
func TestRegionContainsArcsOfJointSteps(t *testing.T) {
	for _, shape := range shapes() {
		for x := -3; x <= 10; x++ {
			for y := -3; y <= 10; y++ {
				relative := scaled(moved(shape, pt(-x, -y)), 16*api.Denom)
				for _, step := range []int{-1, 0, 1} {
					turned, exact := polygon.Rotate(relative, step)
					by := pt(16*(x-7*y), 16*(3*x+y))
					m := motion{pivot: by, a: moved(relative, by), b: moved(turned, by)}
					p, ok := sweep.Region(m.pivot, m.a, m.b)
					if !exact || !ok {
						t.Fatalf("%v cannot be turned, or there is no Region(%v, %v, %v)", relative, m.pivot, m.a, m.b)
					}
					for i, c := range m.a {
						if !isArcIn(p, m.pivot, c, m.b[i]) {
							t.Fatalf("Region(%v, %v, %v) = %v misses the arc of corner %d", m.pivot, m.a, m.b, p, i)
						}
					}
				}
			}
		}
	}
}

// P6.3: corners turned by a part of a joint step, to points that need not be integers, are in the region.
func TestRegionContainsPointsOfArcs(t *testing.T) {
	for _, shape := range shapes() {
		a := scaled(shape, 16*api.Denom)
		for _, step := range []int{-1, 1} {
			b, _ := polygon.Rotate(a, step)
			p, ok := sweep.Region(pt(0, 0), a, b)
			if !ok {
				t.Fatalf("there is no Region(%v, %v, %v)", pt(0, 0), a, b)
			}
			// A joint step is the turn of (8, 1), the square of 8 + i divided by its length; the turns of larger quotients are smaller.
			for m := 8; m < 60; m++ {
				cos, sin, length := m*m-1, 2*m*step, m*m+1
				way := mapped(a, func(c api.Point) api.Point { return pt(c.X*cos-c.Y*sin, c.X*sin+c.Y*cos) })
				if !containsAll(scaled(p, length), way) {
					t.Fatalf("Region(%v, %v, %v) = %v misses a corner of %v, divided by %d", pt(0, 0), a, b, p, way, length)
				}
			}
		}
	}
}

// P6.4: the order of both polygons does not matter.
func TestOrderDoesNotMatter(t *testing.T) {
	for _, m := range slices.Concat(motions(), swings()) {
		want, _ := sweep.Region(m.pivot, m.a, m.b)
		checkRegion(t, "exchanged polygons", motion{pivot: m.pivot, a: m.b, b: m.a}, want)
		for i, c := range m.a {
			if got, want := sweep.ArcBound(m.pivot, c, m.b[i]), sweep.ArcBound(m.pivot, m.b[i], c); got != want {
				t.Fatalf("ArcBound(%v, %v, %v) = %v, but in the other order %v", m.pivot, c, m.b[i], got, want)
			}
		}
	}
}

// P6.4: a translation of the pivot and both polygons translates the region, as far as all points stay in range.
func TestTranslation(t *testing.T) {
	count := 0
	for _, m := range slices.Concat(motions(), swings()) {
		p, _ := sweep.Region(m.pivot, m.a, m.b)
		steps := []api.Point{pt(1, 0), pt(0, -1), pt(-7, 5), pt(16, 32), pt(api.Unit, api.Unit), pt(far/2, -far/2)}
		for _, by := range slices.Concat(steps, m.toTheEnds()) {
			if there := m.moved(by); there.isSpecified() {
				checkRegion(t, "translated", there, moved(p, by))
				count++
			}
		}
	}
	if count < 50000 {
		t.Errorf("only %d translated motions are in range", count)
	}
}

// P6.4: quarter turns of both polygons about the pivot turn the region, but for the corner with which the list begins.
func TestQuarterTurns(t *testing.T) {
	count := 0
	for _, m := range slices.Concat(motions(), swings()) {
		p, ok := sweep.Region(m.pivot, m.a, m.b)
		there := m
		for range 3 {
			turn := func(c api.Point) api.Point { return quarter(m.pivot, c) }
			there, p = there.mapped(turn), mapped(p, turn)
			if !there.isSpecified() {
				continue
			}
			if ok {
				p = startingAt(p, firstIndex(p))
			}
			checkRegion(t, "turned", there, p)
			count++
		}
	}
	if count < 20000 {
		t.Errorf("only %d turned motions are in range", count)
	}
}

// P6.4: without some of the corners, the region is not larger.
func TestFewerCornersNeverEnlarge(t *testing.T) {
	r := rand.New(rand.NewSource(6))
	smaller, gone := 0, 0
	for _, m := range slices.Concat(motions(), swings()) {
		p, ok := sweep.Region(m.pivot, m.a, m.b)
		for k := range 6 {
			set := r.Intn(1 << 12)
			if k < 3 {
				set = 1 << r.Intn(max(1, len(m.a)))
			}
			less := m.without(set)
			q, exists := sweep.Region(less.pivot, less.a, less.b)
			if exists && !ok || exists && !containsAll(p, q) {
				t.Fatalf("Region(%v, %v, %v) = %v, but without the corners %b it is %v", m.pivot, m.a, m.b, p, set, q)
			}
			if ok && !exists {
				gone++
			} else if !slices.Equal(p, q) {
				smaller++
			}
		}
	}
	if smaller < 20000 || gone < 500 {
		t.Errorf("%d regions are smaller and %d are gone", smaller, gone)
	}
}

// P6.4: no corner of the region, and so no point of it, is farther from the pivot than 9/8 times the distance of the farthest corner.
func TestRegionIsNear(t *testing.T) {
	farthest := func(l []api.Point, pivot api.Point) int {
		most := 0
		for _, c := range l {
			most = max(most, square(minus(c, pivot)))
		}
		return most
	}
	attained := 0
	for _, m := range slices.Concat(motions(), swings()) {
		p, _ := sweep.Region(m.pivot, m.a, m.b)
		there, here := farthest(p, m.pivot), farthest(slices.Concat(m.a, m.b), m.pivot)
		if !isNotAbove(64, there, 81, here) {
			t.Fatalf("Region(%v, %v, %v) = %v has a corner that is too far away", m.pivot, m.a, m.b, p)
		}
		if there > 0 && isNotAbove(81, here, 64, there) {
			attained++
		}
	}
	if attained < 100 {
		t.Errorf("only %d regions are as far away as they may be", attained)
	}
}

// P6.1 (F2): a polygon that stays where it is has outer points, too, which are 9/8 as far from the pivot as its corners.
func TestRegionOfPolygonThatStays(t *testing.T) {
	for _, shape := range shapes() {
		p := scaled(shape, 16)
		for _, pivot := range []api.Point{p[0], p[1], pt(0, 0), pt(-160, 16)} {
			var grown []api.Point
			for _, c := range p {
				u := minus(c, pivot)
				grown = append(grown, plus(pivot, pt(u.X/8*9, u.Y/8*9)))
			}
			checkRegion(t, "equal polygons", motion{pivot: pivot, a: p, b: slices.Clone(p)}, wrap(slices.Concat(p, grown)))
			checkRegion(t, "a polygon and itself", motion{pivot: pivot, a: p, b: p}, wrap(slices.Concat(p, grown)))
		}
	}
}

// unusual are lists of corners of every kind, in range and beyond.
func unusual() []api.Polygon {
	const low, high = math.MinInt, math.MaxInt
	return append(shapes(),
		nil,
		api.Polygon{},
		poly(1, 2),
		poly(1, 2, 3, 4),
		poly(5, 5, 5, 5, 5, 5),
		poly(0, 0, 1, 1, 2, 2, 3, 3),
		poly(0, 0, 0, 4, 4, 4),
		poly(4, 6, 10, 0, 10, 10, 0, 0),
		poly(10, 0, -8, 6, 3, -9, 3, 9, -8, -6),
		poly(-far, -far, far, -far, far, far, -far, far),
		poly(low, low, high, low, high, high, low, high),
		poly(low, high, 0, 0, high, low, 1, 1, low, low),
		arc(12),
		arc(13),
		arc(300),
	)
}

// P1: the functions return for every argument for which they are specified, and for others too.
func TestEveryCallReturns(t *testing.T) {
	const low, high = math.MinInt, math.MaxInt
	l := unusual()
	for _, pivot := range poly(0, 0, 5, 5, -far, far, low, high, high, high, low, low) {
		for _, p := range l {
			for _, q := range l {
				sweep.Region(pivot, p, q)
				if len(p) > 0 && len(q) > 0 {
					sweep.ArcBound(pivot, p[0], q[len(q)-1])
				}
			}
		}
	}
}

// P2: without a region, the polygon has no corners.
func TestFailureHasZeroValues(t *testing.T) {
	seen := map[bool]int{}
	check := func(m motion) {
		p, ok := sweep.Region(m.pivot, m.a, m.b)
		if !ok && len(p) > 0 {
			t.Fatalf("Region(%v, %v, %v) = %v, false", m.pivot, m.a, m.b, p)
		}
		seen[ok]++
	}
	for i, m := range motions() {
		check(m)
		check(motion{pivot: m.pivot, a: m.a, b: motions()[0].b})
		check(motion{pivot: m.pivot, a: slices.Repeat(m.a, i%4), b: slices.Repeat(m.b, i%4)})
	}
	if seen[true] < 1000 || seen[false] < 1000 {
		t.Errorf("%d regions exist and %d do not", seen[true], seen[false])
	}
}

// inRoom returns a copy of p that is followed by other points in the same memory, and that memory.
func inRoom(p api.Polygon) (copied, room api.Polygon) {
	room = slices.Concat(p, slices.Repeat(poly(9, 8, 7, 6), 20))
	return room[:len(p)], room
}

// P3: polygons that were passed in, and the memory behind them, remain as they were.
func TestArgumentsStay(t *testing.T) {
	check := func(m motion) {
		a, first := inRoom(m.a)
		b, second := inRoom(m.b)
		wantFirst, wantSecond := slices.Clone(first), slices.Clone(second)
		sweep.Region(m.pivot, a, b)
		if !slices.Equal(first, wantFirst) || !slices.Equal(second, wantSecond) {
			t.Fatalf("%v, %v became %v, %v", wantFirst, wantSecond, first, second)
		}
	}
	for _, m := range motions() {
		check(m)
		check(motion{pivot: m.pivot, a: m.a, b: arc(4)})
		check(motion{pivot: m.pivot, a: slices.Repeat(m.a, 5), b: slices.Repeat(m.b, 5)})
	}
}

// overwrite replaces all corners of p, and those behind them in its memory.
func overwrite(p api.Polygon) {
	p = p[:cap(p)]
	for i := range p {
		p[i] = pt(-99, 99)
	}
}

// P3: results share no memory with arguments or with each other, so that a caller may do with them what it likes.
func TestResultsAreNew(t *testing.T) {
	for _, m := range slices.Concat(motions()[:3000], swings()[:1000]) {
		a, b := slices.Clone(m.a), slices.Clone(m.b)
		p, _ := sweep.Region(m.pivot, a, b)
		again, _ := sweep.Region(m.pivot, a, b)
		overwrite(p)
		if !slices.Equal(a, m.a) || !slices.Equal(b, m.b) {
			t.Fatalf("%v, %v became %v, %v", m.a, m.b, a, b)
		}
		if !slices.Equal(again, m.region()) {
			t.Fatalf("the second Region(%v, %v, %v) became %v", m.pivot, m.a, m.b, again)
		}
		checkRegion(t, "after another result was overwritten", m, m.region())
	}
}

// P3: the results depend on the arguments only, not on earlier calls, on others at the same time or on whether both polygons are one slice.
func TestResultsDependOnArgumentsOnly(t *testing.T) {
	l := motions()[:3000]
	first := make([]api.Polygon, len(l))
	for i, m := range l {
		first[i], _ = sweep.Region(m.pivot, m.a, m.b)
	}
	var g sync.WaitGroup
	for range 4 {
		g.Go(func() {
			for i, m := range slices.Backward(l) {
				if again, _ := sweep.Region(m.pivot, slices.Clone(m.a), slices.Clone(m.b)); !slices.Equal(again, first[i]) {
					t.Errorf("%v: %v, then %v", m, first[i], again)
				}
			}
		})
	}
	g.Wait()
}

// P3: nil and an empty slice are equivalent.
func TestNilAndEmptyAreEquivalent(t *testing.T) {
	triangle := poly(0, 0, 16, 0, 0, 16)
	for _, empty := range []api.Polygon{nil, {}, triangle[:0]} {
		for _, other := range []api.Polygon{nil, {}, triangle, arc(12), arc(13)} {
			checkRegion(t, "empty", motion{pivot: pt(1, 2), a: empty, b: other}, nil)
			checkRegion(t, "empty", motion{pivot: pt(1, 2), a: other, b: empty}, nil)
		}
	}
}
