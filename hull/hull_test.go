package hull_test

import (
	"math"
	"math/rand"
	"slices"
	"sync"
	"testing"

	"ambidexter/api"
	"ambidexter/hull"
	"ambidexter/polygon"
)

// checkConvex compares IsConvex of p, beginning at any of its corners, with the definition.
func checkConvex(t *testing.T, p api.Polygon, want bool) {
	t.Helper()
	for k := range max(1, len(p)) {
		if q := startingAt(p, k); hull.IsConvex(q) != want {
			t.Errorf("IsConvex(%v) = %v", q, !want)
		}
	}
}

// P4.1 (D1): fewer than three corners.
func TestConvexNeedsThreeCorners(t *testing.T) {
	for _, p := range []api.Polygon{nil, {}, poly(0, 0), poly(far, -far), poly(0, 0, 1, 0), poly(2, 3, 2, 3), poly(-far, -far, far, far)} {
		checkConvex(t, p, false)
	}
}

// P4.1 (D1): strictly convex polygons, and their reverses.
func TestConvexShapes(t *testing.T) {
	for _, p := range convexShapes() {
		checkConvex(t, p, true)
		checkConvex(t, reversed(p), false)
	}
	for _, n := range []int{13, 40, 300} {
		checkConvex(t, arc(n), true)
		checkConvex(t, reversed(arc(n)), false)
	}
}

// P4.1 (D1): a corner in the middle of an edge, beyond its end, or repeated, at every place in the list.
func TestConvexWithCollinearCorners(t *testing.T) {
	for _, p := range convexShapes() {
		for i, a := range p {
			b := after(p, i)
			extras := []api.Point{a, b, pt(2*b.X-a.X, 2*b.Y-a.Y)}
			if (a.X+b.X)%2 == 0 && (a.Y+b.Y)%2 == 0 {
				extras = append(extras, pt((a.X+b.X)/2, (a.Y+b.Y)/2))
			}
			for _, extra := range extras {
				if max(size(extra.X), size(extra.Y)) <= far {
					checkConvex(t, slices.Insert(slices.Clone(p), i+1, extra), false)
				}
			}
		}
	}
	for _, p := range []api.Polygon{
		poly(0, 0, 1, 1, 2, 2),
		poly(0, 0, 0, 0, 0, 0),
		poly(0, 0, 4, 0, 4, 0),
		poly(0, 0, 4, 0, 4, 4, 4, 0),
		poly(-far, -far, 0, 0, far, far),
		poly(far, far, -far, -far, 0, 0),
		poly(-far, 0, far, 0, far, 0, far, far),
	} {
		checkConvex(t, p, false)
	}
}

// P4.1 (D1): polygons that are not convex, or convex only locally.
func TestConvexOfOtherPolygons(t *testing.T) {
	for _, p := range dentedShapes() {
		checkConvex(t, p, false)
		checkConvex(t, reversed(p), false)
	}
	for _, p := range []api.Polygon{
		poly(10, 0, -8, 6, 3, -9, 3, 9, -8, -6),                  // a star, which turns left at every corner
		poly(0, 0, 8, 0, 8, 8, 2, 8, 2, 2, 6, 2, 6, 10, 0, 10),   // a loop, which does so, too
		poly(0, 0, 4, 0, 4, 4, 0, 4, 0, 0, 4, 0, 4, 4, 0, 4),     // twice around a square
		poly(0, 0, 4, 0, 0, 4, 4, 4),                             // a bow tie
		poly(-far, -far, far, far, -far, far, far, -far),         // a large one
		poly(-far, -far, far, far-1, far, far, 2-far, 2-far),     // as flat as possible
		poly(-far, -far, far-1, far-2, far, far-1, 1-far, 1-far), // opposite edges on one line but for the least distance
	} {
		checkConvex(t, p, isConvex(p))
	}
}

// P4.1 (D1): all short lists of points of a small grid.
func TestConvexOnGrid(t *testing.T) {
	seen := map[bool]int{}
	check := func(p api.Polygon) {
		want := isConvex(p)
		if got := hull.IsConvex(p); got != want {
			t.Fatalf("IsConvex(%v) = %v, want %v", p, got, want)
		}
		seen[want]++
	}
	for n := range 5 {
		eachList(grid(0, 3), n, check)
	}
	eachList(grid(0, 2), 5, check)
	if seen[true] < 1000 || seen[false] < 1000 {
		t.Errorf("%d lists are convex and %d are not", seen[true], seen[false])
	}
}

// drawList returns n points: near the origin, in the whole range or at its ends, according to kind.
func drawList(r *rand.Rand, n, kind int) []api.Point {
	draw := [3]func(r *rand.Rand) api.Point{drawNear, drawFar, drawEnd}[kind%3]
	l := make([]api.Point, n)
	for i := range l {
		l[i] = draw(r)
	}
	return l
}

// P4.1 (D1): random lists of points, near the origin, in the whole range and at its ends.
func TestConvexOfRandomLists(t *testing.T) {
	r := rand.New(rand.NewSource(5))
	seen := map[bool]int{}
	for i := range 30000 {
		p := api.Polygon(drawList(r, 3+r.Intn(4), i))
		want := isConvex(p)
		if got := hull.IsConvex(p); got != want {
			t.Fatalf("IsConvex(%v) = %v, want %v", p, got, want)
		}
		seen[want]++
	}
	if seen[true] < 1000 || seen[false] < 1000 {
		t.Errorf("%d lists are convex and %d are not", seen[true], seen[false])
	}
}

// checkHull compares the hull of l with want, where nil stands for no hull.
func checkHull(t *testing.T, l []api.Point, want api.Polygon) {
	t.Helper()
	got, ok := hull.Of(l)
	if !slices.Equal(got, want) || ok != (len(want) > 0) {
		t.Fatalf("Of(%v) = %v, %v, want %v", l, got, ok, want)
	}
}

// P4.1 (D2): hulls that are written out, among them the chapter's example.
func TestHullExamples(t *testing.T) {
	const f = far
	for _, x := range []struct{ l, want api.Polygon }{
		{poly(0, 0, 4, 0, 2, 1, 4, 4, 0, 4, 2, 0), poly(0, 0, 4, 0, 4, 4, 0, 4)},
		{poly(0, 0, 0, 1, 1, 0), poly(0, 0, 1, 0, 0, 1)},
		{poly(5, 5, 1, 2, 1, -2, 5, -5, 1, 0), poly(1, -2, 5, -5, 5, 5, 1, 2)},
		{poly(3, 0, 0, 3, -3, 0, 0, -3, 0, 0), poly(-3, 0, 0, -3, 3, 0, 0, 3)},
		{poly(3, 0, 0, 0, 1, 0, 2, 0, 1, 1, 2, 2, 0, 3, 0, 2, 0, 1, 2, 1), poly(0, 0, 3, 0, 2, 2, 0, 3)},
		{poly(0, 0, 4, 1, 2, 0, 1, 0, 3, 1, 3, 0, 2, 1, 4, 0), poly(0, 0, 4, 0, 4, 1, 2, 1)},
		{poly(7, 7, 0, 1, 7, 7, 0, 0, 0, 1, 0, 0), poly(0, 0, 7, 7, 0, 1)},
		{poly(0, 0, f, f, f, -f, 0, -f, -f, f, -f, 0, -f, -f, f, 0), poly(-f, -f, f, -f, f, f, -f, f)},
		{poly(f, f-1, 1-f, 1-f, -f, -f), poly(-f, -f, f, f-1, 1-f, 1-f)},
		{poly(f, f-1, f-1, f-2, -f, -f), poly(-f, -f, f-1, f-2, f, f-1)},
		{poly(f, f-1, f-1, f-2, -f, -f, 1-f, 1-f), poly(-f, -f, f-1, f-2, f, f-1, 1-f, 1-f)},
	} {
		checkHull(t, x.l, x.want)
		checkHull(t, reversed(x.l), x.want)
	}
}

// P4.1 (D2) and P2: without a hull, the result is nil and false.
func TestNoHull(t *testing.T) {
	const f = far
	for _, l := range [][]api.Point{
		nil,
		{},
		poly(0, 0),
		poly(f, -f),
		poly(0, 0, 1, 2),
		poly(3, 3, 3, 3),
		poly(3, 3, 3, 3, 3, 3),
		poly(0, 0, 1, 1, 2, 2),
		poly(2, 2, 0, 0, 1, 1, 2, 2, 0, 0),
		poly(4, 1, 4, 1, 4, 9, 4, 9, 4, 5),
		poly(1, 4, 9, 4, 1, 4, 5, 4),
		poly(-2, 1, 0, 0, 2, -1, 4, -2),
		poly(-f, f, f, -f, 0, 0, 1, -1, f-1, 1-f),
		poly(f, f, f, -f, f, 0),
		slices.Repeat(poly(7, 8), 40),
		slices.Repeat(poly(-f, 5, f, 5), 20),
	} {
		checkHull(t, l, nil)
	}
}

// P4.1 (D2): all sets of points of a small grid.
func TestHullOfSubsets(t *testing.T) {
	all := grid(-1, 2)
	without := 0
	for set := range 1 << len(all) {
		var l []api.Point
		for i, x := range all {
			if set>>i&1 == 1 {
				l = append(l, x)
			}
		}
		want := wrap(l)
		if want == nil {
			without++
		}
		checkHull(t, l, want)
	}
	if without < 40 {
		t.Errorf("only %d sets have no hull", without)
	}
}

// P4.1 (D2): all short lists of points of a small grid, in every order and with repetitions.
func TestHullOfShortLists(t *testing.T) {
	for n := range 6 {
		eachList(grid(0, 2), n, func(p api.Polygon) { checkHull(t, p, wrap(p)) })
	}
}

// P4.1 (D2): up to 40 random points, near the origin, in the whole range and at its ends.
func TestHullOfRandomLists(t *testing.T) {
	r := rand.New(rand.NewSource(6))
	for i := range 20000 {
		l := drawList(r, r.Intn(41), i)
		checkHull(t, l, wrap(l))
	}
}

// P4.1 (D2): 40 points that are all corners, and 40 of which all are on edges.
func TestHullOfFortyPoints(t *testing.T) {
	r := rand.New(rand.NewSource(7))
	var ring []api.Point
	for i := range 10 {
		ring = append(ring, pt(i, 0), pt(10, i), pt(10-i, 10), pt(0, 10-i))
	}
	for _, x := range []struct{ l, want api.Polygon }{
		{arc(40), arc(40)},
		{scaled(arc(40), -1), startingAt(scaled(arc(40), -1), 39)},
		{ring, poly(0, 0, 10, 0, 10, 10, 0, 10)},
		{scaled(ring, far/10), poly(0, 0, far, 0, far, far, 0, far)},
	} {
		if len(x.l) != 40 {
			t.Errorf("%d points", len(x.l))
		}
		for range 20 {
			checkHull(t, x.l, x.want)
			r.Shuffle(len(x.l), func(i, j int) { x.l[i], x.l[j] = x.l[j], x.l[i] })
		}
	}
}

// P4.2: a hull is strictly convex, its corners are input points, and it contains every input point.
func TestHullContainsAllPoints(t *testing.T) {
	r := rand.New(rand.NewSource(8))
	for i := range 10000 {
		l := drawList(r, 3+r.Intn(38), i)
		p, ok := hull.Of(l)
		if !ok {
			continue
		}
		if !isConvex(p) || !hull.IsConvex(p) {
			t.Fatalf("the hull %v of %v is not strictly convex", p, l)
		}
		for _, corner := range p {
			if !slices.Contains(l, corner) {
				t.Fatalf("%v is a corner of the hull of %v", corner, l)
			}
		}
		for _, x := range l {
			if !isInConvex(p, x) {
				t.Fatalf("the hull %v does not contain %v", p, x)
			}
		}
		if p[0] != first(l) {
			t.Fatalf("the hull %v of %v begins at another corner", p, l)
		}
	}
}

// P4.3: neither the order nor the multiplicity of the points matters, and a hull's corners have that hull.
func TestHullIsCanonical(t *testing.T) {
	r := rand.New(rand.NewSource(9))
	for i := range 3000 {
		l := drawList(r, r.Intn(21), i)
		want, _ := hull.Of(l)
		checkHull(t, want, want)
		for k := range want {
			checkHull(t, startingAt(want, k), want)
			checkHull(t, reversed(startingAt(want, k)), want)
		}
		more := slices.Clone(l)
		for range 40 - len(l) {
			if len(l) > 0 {
				more = append(more, l[r.Intn(len(l))])
			}
		}
		checkHull(t, more, want)
		r.Shuffle(len(more), func(i, j int) { more[i], more[j] = more[j], more[i] })
		checkHull(t, more, want)
	}
}

// isEqual reports whether two decompositions have the same parts with the same corners, in the same order.
func isEqual(a, b []api.Polygon) bool {
	return slices.EqualFunc(a, b, func(p, q api.Polygon) bool { return slices.Equal(p, q) })
}

// The tests of Decompose make sense for valid polygons only.
func TestPolygonsAreValid(t *testing.T) {
	convex, dented := map[int]int{}, map[int]int{}
	for _, p := range validPolygons() {
		if !polygon.Valid(p) {
			t.Errorf("%v is not valid", p)
		}
		if isConvex(p) {
			convex[len(p)]++
		} else {
			dented[len(p)]++
		}
	}
	for n := 3; n <= 12; n++ {
		if convex[n] == 0 || dented[n] < 15 && n > 3 {
			t.Errorf("%d convex and %d other polygons have %d corners", convex[n], dented[n], n)
		}
	}
}

// P4.1 (D3): a strictly convex polygon is its only part, with its corners in their order.
func TestDecomposeConvex(t *testing.T) {
	for _, p := range convexShapes() {
		for k := range p {
			q := startingAt(p, k)
			if got := hull.Decompose(q); !isEqual(got, []api.Polygon{q}) {
				t.Errorf("Decompose(%v) = %v", q, got)
			}
		}
	}
}

// P4.1 (D3): decompositions that are written out: the order of the parts and of their corners.
func TestDecomposeExamples(t *testing.T) {
	notch := poly(0, 0, 4, 0, 4, 4, 2, 2, 0, 4)
	for _, x := range []struct {
		what string
		p    api.Polygon
		want []api.Polygon
	}{
		{"the first corner is an ear", poly(6, 6, 0, 3, -6, 6, 0, 0), []api.Polygon{
			poly(0, 0, 6, 6, 0, 3), poly(0, 3, -6, 6, 0, 0)}},
		{"the reflex corner is in the first corner's triangle", poly(0, 0, 6, 6, 0, 3, -6, 6), []api.Polygon{
			poly(0, 0, 6, 6, 0, 3), poly(0, 0, 0, 3, -6, 6)}},
		{"the reflex corner is the first one", poly(0, 3, -6, 6, 0, 0, 6, 6), []api.Polygon{
			poly(0, 3, -6, 6, 0, 0), poly(0, 3, 0, 0, 6, 6)}},
		{"two triangles have the reflex corner on their boundary", notch, []api.Polygon{
			poly(4, 0, 4, 4, 2, 2), poly(0, 0, 4, 0, 2, 2), poly(0, 0, 2, 2, 0, 4)}},
		{"the first corner is on a straight line with its neighbors once an ear is gone", startingAt(notch, 3), []api.Polygon{
			poly(2, 2, 0, 4, 0, 0), poly(2, 2, 0, 0, 4, 0), poly(2, 2, 4, 0, 4, 4)}},
		{"an L", poly(0, 0, 6, 0, 6, 2, 2, 2, 2, 6, 0, 6), []api.Polygon{
			poly(0, 0, 6, 0, 6, 2), poly(0, 0, 6, 2, 2, 2), poly(0, 6, 0, 0, 2, 2), poly(2, 2, 2, 6, 0, 6)}},
	} {
		if got := hull.Decompose(x.p); !isEqual(got, x.want) {
			t.Errorf("%s: Decompose(%v) = %v, want %v", x.what, x.p, got, x.want)
		}
	}
}

// checkDecomposition compares the decomposition of p, beginning at any of its corners, with the definition.
func checkDecomposition(t *testing.T, p api.Polygon) {
	t.Helper()
	for k := range p {
		q := startingAt(p, k)
		if got, want := hull.Decompose(q), decompose(q); !isEqual(got, want) {
			t.Fatalf("Decompose(%v) = %v, want %v", q, got, want)
		}
	}
}

// P4.1 (D3): polygons of many forms, with up to 12 corners.
func TestDecompose(t *testing.T) {
	for _, p := range validPolygons() {
		checkDecomposition(t, p)
	}
}

// P4.1 (D3): all small polygons of a grid.
func TestDecomposeOnGrid(t *testing.T) {
	counts := map[int]int{}
	check := func(p api.Polygon) {
		if p[0] == first(p) && polygon.Valid(p) {
			checkDecomposition(t, p)
			counts[len(p)]++
		}
	}
	for n := 3; n <= 5; n++ {
		eachList(grid(0, 3), n, check)
	}
	eachList(grid(0, 2), 6, check)
	for n := 3; n <= 6; n++ {
		if counts[n] < 50 {
			t.Errorf("only %d polygons have %d corners", counts[n], n)
		}
	}
}

// P4.4: all parts are strictly convex, their corners are those of the polygon, and their areas add up to its area.
func TestPartsOfPolygons(t *testing.T) {
	for _, p := range validPolygons() {
		parts := hull.Decompose(p)
		area := 0
		for _, part := range parts {
			area += polygon.DoubleArea(part)
			if !isConvex(part) || !hull.IsConvex(part) {
				t.Errorf("%v: part %v is not strictly convex", p, part)
			}
			for _, corner := range part {
				if !slices.Contains(p, corner) {
					t.Errorf("%v: part %v has another corner", p, part)
				}
			}
		}
		if area != polygon.DoubleArea(p) {
			t.Errorf("%v: the areas of the parts add up to %d, not %d", p, area, polygon.DoubleArea(p))
		}
		if !isConvex(p) && len(parts) != len(p)-2 {
			t.Errorf("%v has %d parts", p, len(parts))
		}
	}
}

// checkCover reports an error if x belongs to p but to no part, or to some part but not to p. It returns the position of x relative to p.
func checkCover(t *testing.T, p api.Polygon, parts []api.Polygon, x api.Point) int {
	t.Helper()
	where := polygon.Locate(p, x)
	if isInSome(parts, x) != (where >= 0) {
		t.Fatalf("%v: the position of %v is %d, but its parts are %v", p, x, where, parts)
	}
	return where
}

// P4.4: a point belongs to the polygon if and only if it belongs to some part, for all points on and around small polygons.
func TestPartsCoverSmallPolygons(t *testing.T) {
	seen := map[int]int{}
	for _, p := range validPolygons() {
		if slices.ContainsFunc(p, func(c api.Point) bool { return max(size(c.X), size(c.Y)) > 20 }) {
			continue
		}
		// The scale brings more of the points between the corners onto integers.
		p = scaled(p, 2)
		low, high := slices.MinFunc(p, bySum), slices.MaxFunc(p, bySum)
		parts := hull.Decompose(p)
		for _, x := range grid(min(low.X, low.Y)-5, max(high.X, high.Y)+5) {
			seen[checkCover(t, p, parts, x)]++
		}
	}
	for where := -1; where <= 1; where++ {
		if seen[where] < 1000 {
			t.Errorf("only %d points have the position %d", seen[where], where)
		}
	}
}

// bySum orders points by the sums of their coordinates.
func bySum(a, b api.Point) int { return a.X + a.Y - b.X - b.Y }

// P4.4: the same for polygons in the whole range, with points on their diagonals, next to their corners and elsewhere.
func TestPartsCoverLargePolygons(t *testing.T) {
	r := rand.New(rand.NewSource(10))
	seen := map[int]int{}
	for _, p := range validPolygons() {
		parts := hull.Decompose(p)
		for range 50 {
			a, b := p[r.Intn(len(p))], p[r.Intn(len(p))]
			near := pt(a.X+r.Intn(3)-1, a.Y+r.Intn(3)-1)
			near = pt(min(max(near.X, -far), far), min(max(near.Y, -far), far))
			for _, x := range []api.Point{pt((a.X+b.X)/2, (a.Y+b.Y)/2), near, drawFar(r), drawEnd(r)} {
				seen[checkCover(t, p, parts, x)]++
			}
		}
	}
	for where := -1; where <= 1; where++ {
		if seen[where] < 1000 {
			t.Errorf("only %d points have the position %d", seen[where], where)
		}
	}
}

// P1: the functions return for every argument for which they are specified, and for others too.
func TestEveryCallReturns(t *testing.T) {
	const low, high = math.MinInt, math.MaxInt
	l := []api.Polygon{
		nil,
		{},
		poly(1, 2),
		poly(1, 2, 3, 4),
		poly(5, 5, 5, 5, 5, 5, 5, 5),
		poly(0, 0, 1, 1, 2, 2, 3, 3, 4, 4),
		poly(10, 0, -8, 6, 3, -9, 3, 9, -8, -6),
		poly(4, 6, 10, 0, 10, 10, 0, 0),
		poly(low, low, high, low, high, high, low, high),
		poly(low, high, 0, 0, high, low, 1, 1, low, low),
		arc(100),
		reversed(arc(60)),
	}
	for _, p := range slices.Concat(validPolygons(), l) {
		for _, q := range []api.Polygon{p, reversed(p)} {
			hull.IsConvex(q)
			hull.Of(q)
			hull.Decompose(q)
		}
	}
	eachList(grid(0, 1), 6, func(p api.Polygon) { hull.Decompose(p) })
}

// inRoom returns a copy of l that is followed by other points in the same memory, and that memory.
func inRoom(l []api.Point) (copied, room []api.Point) {
	room = slices.Concat(l, poly(9, 8, 7, 6, 5, 4))
	return room[:len(l)], room
}

// P3: lists that were passed in remain as they were.
func TestArgumentsStay(t *testing.T) {
	r := rand.New(rand.NewSource(11))
	for i, p := range validPolygons() {
		for _, l := range [][]api.Point{p, reversed(p), drawList(r, r.Intn(12), i)} {
			q, room := inRoom(l)
			before := slices.Clone(room)
			hull.IsConvex(q)
			hull.Of(q)
			if polygon.Valid(q) {
				hull.Decompose(q)
			}
			if !slices.Equal(room, before) {
				t.Fatalf("%v became %v", before, room)
			}
		}
	}
}

// overwrite replaces all points of p, and those behind them in its memory.
func overwrite(p api.Polygon) {
	p = p[:cap(p)]
	for i := range p {
		p[i] = pt(-99, 99)
	}
}

// P3: results share no memory with arguments or with each other, so that a caller may do with them what it likes.
func TestResultsAreNew(t *testing.T) {
	for _, p := range validPolygons() {
		q := slices.Clone(p)
		around, _ := hull.Of(q)
		again, _ := hull.Of(q)
		parts := hull.Decompose(q)
		want := decompose(p)
		overwrite(around)
		for i, part := range parts {
			if !slices.Equal(part, want[i]) {
				t.Fatalf("part %d of %v changed to %v", i, p, part)
			}
			overwrite(part)
		}
		if !slices.Equal(q, p) {
			t.Fatalf("%v became %v", p, q)
		}
		if !slices.Equal(again, wrap(p)) {
			t.Fatalf("the hull of %v became %v", p, again)
		}
	}
}

// results collects what all functions return for one polygon.
type results struct {
	convex bool
	hull   api.Polygon
	ok     bool
	parts  []api.Polygon
}

// callAll calls every function of the package.
func callAll(p api.Polygon) results {
	around, ok := hull.Of(p)
	return results{convex: hull.IsConvex(p), hull: around, ok: ok, parts: hull.Decompose(p)}
}

// isSame reports whether two results are equal.
func isSame(a, b results) bool {
	return a.convex == b.convex && slices.Equal(a.hull, b.hull) && a.ok == b.ok && isEqual(a.parts, b.parts)
}

// P3: the results depend on the arguments only, not on earlier calls or on others at the same time.
func TestResultsDependOnArgumentsOnly(t *testing.T) {
	l := validPolygons()
	first := make([]results, len(l))
	for i, p := range l {
		first[i] = callAll(p)
	}
	var g sync.WaitGroup
	for range 4 {
		g.Go(func() {
			for i := len(l) - 1; i >= 0; i-- {
				if again := callAll(l[i]); !isSame(again, first[i]) {
					t.Errorf("%v: %v, then %v", l[i], first[i], again)
				}
			}
		})
	}
	g.Wait()
}
