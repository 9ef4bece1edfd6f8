package polygon_test

import (
	"math"
	"math/big"
	"math/rand"
	"slices"
	"sync"
	"testing"

	"ambidexter/api"
	"ambidexter/geom"
	"ambidexter/polygon"
	"ambidexter/rotation"
)

// allPolygons are valid polygons near the origin and in the whole range.
func allPolygons() []api.Polygon { return slices.Concat(nearPolygons(), farPolygons()) }

// P3.1 (C1): the examples of the chapter and polygons of many forms.
func TestValidPolygons(t *testing.T) {
	for _, p := range allPolygons() {
		if !polygon.Valid(p) {
			t.Errorf("Valid(%v) = false", p)
		}
	}
	counts := map[int]int{}
	for _, p := range allPolygons() {
		counts[len(p)]++
	}
	for n := 3; n <= 12; n++ {
		if counts[n] < 5 {
			t.Errorf("only %d polygons have %d corners", counts[n], n)
		}
	}
}

func TestChapterExamples(t *testing.T) {
	p := poly(0, 0, 4, 0, 4, 4)
	if !polygon.Valid(p) || polygon.DoubleArea(p) != 16 {
		t.Errorf("%v: Valid is %v, DoubleArea is %d", p, polygon.Valid(p), polygon.DoubleArea(p))
	}
	if q := reversed(p); polygon.Valid(q) {
		t.Errorf("Valid(%v) = true", q)
	}
	for x, want := range map[api.Point]int{pt(3, 1): 1, pt(2, 2): 0, pt(1, 3): -1} {
		if got := polygon.Locate(p, x); got != want {
			t.Errorf("Locate(%v, %v) = %d, want %d", p, x, got, want)
		}
	}
	if q := poly(0, 0, 2, 0, 4, 0, 4, 4); polygon.Valid(q) {
		t.Errorf("Valid(%v) = true", q)
	}
}

// P3.1 (C1): all short lists of points of a small grid, most of which are not valid polygons.
func TestValidOnGrid(t *testing.T) {
	check := func(p api.Polygon) {
		if got, want := polygon.Valid(p), isValid(p); got != want {
			t.Fatalf("Valid(%v) = %v, want %v", p, got, want)
		}
	}
	for n := range 4 {
		eachList(grid(0, 3), n, check)
	}
	eachList(grid(0, 2), 4, check)
	eachList(grid(0, 2), 5, check)
	eachList([]api.Point{pt(0, 0), pt(2, 0), pt(2, 2), pt(0, 2), pt(1, 1)}, 6, check)
}

// P3.1 (C1): random lists of points, near the origin, in the whole range and at its ends.
func TestValidOnRandomLists(t *testing.T) {
	r := rand.New(rand.NewSource(3))
	ends := []int{-far, 1 - far, 0, far - 1, far}
	draws := []func() api.Point{
		func() api.Point { return drawNear(r) },
		func() api.Point { return drawFar(r) },
		func() api.Point { return pt(ends[r.Intn(len(ends))], ends[r.Intn(len(ends))]) },
	}
	seen := map[bool]int{}
	for i := range 30000 {
		p := make(api.Polygon, 3+r.Intn(5))
		for k := range p {
			p[k] = draws[i%len(draws)]()
		}
		want := isValid(p)
		if got := polygon.Valid(p); got != want {
			t.Fatalf("Valid(%v) = %v, want %v", p, got, want)
		}
		seen[want]++
	}
	if seen[true] < 1000 || seen[false] < 1000 {
		t.Errorf("%d polygons are valid and %d are not", seen[true], seen[false])
	}
}

// arc returns n corners on a parabola, which form a convex polygon.
func arc(n int) api.Polygon {
	var p api.Polygon
	for i := range n {
		p = append(p, pt(i, i*i))
	}
	return p
}

// P3.1 (C1): too few and too many corners.
func TestNumberOfCorners(t *testing.T) {
	for n := range 40 {
		if got, want := polygon.Valid(arc(n)), n >= 3 && n <= 12; got != want {
			t.Errorf("Valid of %d corners is %v", n, got)
		}
	}
	if polygon.Valid(nil) || polygon.Valid(api.Polygon{}) {
		t.Error("a polygon without corners is valid")
	}
	if polygon.Valid(arc(20000)) {
		t.Error("a polygon with 20000 corners is valid")
	}
}

// P3.1 (C1): corners at the ends of the range are valid, and no corner beyond them is.
func TestCornersOutsideTheRange(t *testing.T) {
	for _, p := range []api.Polygon{
		poly(-far, -far, far, -far, far, far, -far, far),
		poly(-far, 0, 0, -far, far, 0, 0, far),
	} {
		if !polygon.Valid(p) {
			t.Errorf("Valid(%v) = false", p)
		}
		for i := range p {
			for _, by := range []int{1, 2, far, 1 << 32, math.MaxInt - far} {
				for _, out := range []api.Point{pt(far+by, p[i].Y), pt(-far-by, p[i].Y), pt(p[i].X, far+by), pt(p[i].X, -far-by), pt(far+by, -far-by)} {
					q := slices.Clone(p)
					q[i] = out
					if polygon.Valid(q) {
						t.Errorf("Valid(%v) = true", q)
					}
				}
			}
		}
	}
	for _, p := range []api.Polygon{
		poly(-far-1, -far, far, -far, far, far),
		poly(far, far, -far, far+1, -far, -far),
		poly(math.MinInt, math.MinInt, math.MaxInt, math.MinInt, math.MaxInt, math.MaxInt),
		moved(poly(0, 0, 4, 0, 4, 4), 1<<40, 0),
		moved(poly(0, 0, 4, 0, 4, 4), 0, -1<<62),
	} {
		if polygon.Valid(p) {
			t.Errorf("Valid(%v) = true", p)
		}
	}
}

// P3.1 (C1): a corner in the middle of an edge, a repeated corner, and an edge that runs back along its predecessor, at every place in the list.
func TestCollinearCorners(t *testing.T) {
	for _, p := range nearPolygons() {
		// There is room for another corner, and the middles of the edges are integers.
		p = scaled(p[:min(len(p), 11)], 2)
		if !polygon.Valid(p) {
			continue
		}
		for i, a := range p {
			b := after(p, i)
			middle, beyond := pt((a.X+b.X)/2, (a.Y+b.Y)/2), pt(2*b.X-a.X, 2*b.Y-a.Y)
			for _, extra := range []api.Point{a, b, middle, beyond} {
				q := slices.Insert(slices.Clone(p), i+1, extra)
				for k := range q {
					if polygon.Valid(startingAt(q, k)) {
						t.Errorf("Valid(%v) = true: %v is an additional corner after %v", startingAt(q, k), extra, a)
					}
				}
			}
		}
	}
	for _, p := range []api.Polygon{
		poly(0, 0, 0, 0, 0, 0),
		poly(0, 0, 4, 4, 2, 2),
		poly(0, 0, 4, 4, 0, 0, 4, 4),
		poly(-far, -far, 0, 0, far, far),
		poly(-far, -far, far, far, far, far),
		poly(2, 0, 4, 0, 4, 4, 0, 4, 0, 0),
		poly(4, 0, 4, 4, 0, 4, 0, 0, 2, 0),
		poly(0, 0, 4, 0, 4, 4, 0, 4, 0, 0),
	} {
		if polygon.Valid(p) {
			t.Errorf("Valid(%v) = true", p)
		}
	}
}

// P3.1 (C1): edges that touch, cross or overlap, in polygons with a positive area and a bend at each corner.
func TestEdgesThatMeet(t *testing.T) {
	for _, x := range []struct {
		what string
		p    api.Polygon
	}{
		{"two edges cross", poly(4, 6, 10, 0, 10, 10, 0, 0)},
		{"two edges cross between integers", poly(0, 0, 9, 0, 9, 9, 4, -1)},
		{"a corner lies on an edge", poly(0, 0, 6, 0, 6, 4, 3, 0, 0, 4)},
		{"a corner lies beyond an edge", poly(0, 0, 6, 0, 6, 4, 3, -1, 0, 4)},
		{"two corners coincide", poly(0, 0, 4, 0, 2, 2, 4, 4, 0, 4, 2, 2)},
		{"two edges overlap", poly(0, 0, 6, 0, 6, 2, 4, 0, 2, 0, 0, 2)},
		{"two edges overlap in part", poly(0, 0, 4, 0, 6, 2, 6, 0, 2, 0, 2, 4, 0, 4)},
		{"two edges are equal", poly(0, 0, 4, 0, 4, 4, 0, 4, 0, 0, 4, 0, 3, 3)},
		{"a star", poly(10, 0, -8, 6, 3, -9, 3, 9, -8, -6)},
		{"twice around a square", poly(0, 0, 4, 0, 4, 4, 0, 4, 0, 0, 4, 0, 4, 4, 0, 4)},
		{"a loop", poly(0, 0, 8, 0, 8, 8, 2, 8, 2, 2, 6, 2, 6, 10, 0, 10)},
		{"a corner lies on an edge at the end of the range", poly(-far, -far, far, -far, far, far, 1, -far, -far, far)},
	} {
		if polygon.DoubleArea(x.p) <= 0 || isStraightSomewhere(x.p) || len(x.p) > 12 {
			t.Errorf("%s: %v is invalid for another reason, too", x.what, x.p)
		}
		for k := range x.p {
			if polygon.Valid(startingAt(x.p, k)) {
				t.Errorf("%s: Valid(%v) = true", x.what, startingAt(x.p, k))
			}
		}
	}
}

// P3.1 (C1) and P3.2: clockwise polygons are invalid.
func TestClockwisePolygons(t *testing.T) {
	for _, p := range allPolygons() {
		if polygon.Valid(reversed(p)) {
			t.Errorf("Valid(%v) = true", reversed(p))
		}
	}
}

// P3.1 (C1): polygons are equal if they have equal corners in the same order, whether they are valid or not.
func TestEqual(t *testing.T) {
	for _, x := range []struct {
		a, b api.Polygon
		want bool
	}{
		{nil, nil, true},
		{nil, api.Polygon{}, true},
		{api.Polygon{}, nil, true},
		{nil, poly(0, 0), false},
		{poly(0, 0), api.Polygon{}, false},
		{poly(3, 4), poly(3, 4), true},
		{poly(3, 4), poly(4, 3), false},
		{poly(3, 4), poly(3, 5), false},
		{poly(3, 4), poly(2, 4), false},
		{poly(3, 4), poly(3, 4, 3, 4), false},
		{poly(3, 4, 3, 4), poly(3, 4), false},
		{poly(0, 0, 4, 0, 4, 4), poly(0, 0, 4, 0, 4, 4), true},
		{poly(0, 0, 4, 0, 4, 4), poly(4, 0, 4, 4, 0, 0), false},
		{poly(0, 0, 4, 0, 4, 4), poly(4, 4, 4, 0, 0, 0), false},
		{poly(0, 0, 4, 0, 4, 4), poly(0, 0, 4, 0), false},
		{poly(0, 0, 4, 0, 4, 4), poly(0, 0, 4, 0, 4, 5), false},
		{poly(0, 0, 4, 0, 4, 4), poly(1, 0, 4, 0, 4, 4), false},
		{poly(math.MinInt, math.MaxInt), poly(math.MinInt, math.MaxInt), true},
		{poly(math.MinInt, 0), poly(0, 0), false},
		{arc(50), arc(50), true},
		{arc(50), arc(51), false},
	} {
		if got := polygon.Equal(x.a, x.b); got != x.want {
			t.Errorf("Equal(%v, %v) = %v", x.a, x.b, got)
		}
	}
}

func TestEqualOfStartingPoints(t *testing.T) {
	for _, p := range allPolygons() {
		for k := range p {
			if got := polygon.Equal(p, startingAt(p, k)); got != (k == 0) {
				t.Errorf("Equal(%v, %v) = %v", p, startingAt(p, k), got)
			}
		}
	}
}

// areaOf returns twice the area of p, as the sum of each corner's X times the difference of its neighbors' Y, computed without bounds.
func areaOf(p api.Polygon) *big.Int {
	sum := new(big.Int)
	for i, c := range p {
		before := p[(i+len(p)-1)%len(p)]
		height := big.NewInt(int64(after(p, i).Y - before.Y))
		sum.Add(sum, height.Mul(height, big.NewInt(int64(c.X))))
	}
	return sum
}

// P3.1 (C2): areas of lists of 0 to 12 points, valid polygons or not, up to the largest area.
func TestDoubleArea(t *testing.T) {
	for _, x := range []struct {
		p    api.Polygon
		want int
	}{
		{nil, 0},
		{poly(3, 4), 0},
		{poly(3, 4, -7, 9), 0},
		{poly(3, 4, 3, 4, 3, 4), 0},
		{poly(1, 1, 2, 2, 9, 9), 0},
		{poly(0, 0, 1, 0, 0, 1), 1},
		{poly(0, 0, 0, 1, 1, 0), -1},
		{poly(0, 0, 4, 0, 4, 4, 0, 4), 32},
		{poly(7, 8, 11, 8, 11, 12, 7, 12), 32},
		{poly(0, 0, 6, 0, 6, 2, 2, 2, 2, 6, 0, 6), 40},
		{poly(0, 0, 4, 4, 4, 0, 0, 4), 0},
		{poly(0, 0, 4, 0, 4, 4, 0, 4, 0, 0, 4, 0, 4, 4, 0, 4), 64},
	} {
		if got := polygon.DoubleArea(x.p); got != x.want {
			t.Errorf("DoubleArea(%v) = %d, want %d", x.p, got, x.want)
		}
	}
	square := poly(-far, -far, far, -far, far, far, -far, far)
	for n, p := range []api.Polygon{nil, square, slices.Concat(square, square), slices.Concat(square, square, square)} {
		if got := polygon.DoubleArea(p); got != n*8*far*far {
			t.Errorf("%d times around: the area is %d", n, got)
		}
		if got := polygon.DoubleArea(reversed(p)); got != -n*8*far*far {
			t.Errorf("%d times around clockwise: the area is %d", n, got)
		}
	}
}

// drawList returns up to 12 valid points.
func drawList(r *rand.Rand) api.Polygon {
	p := make(api.Polygon, r.Intn(13))
	for i := range p {
		if r.Intn(2) == 0 {
			p[i] = drawNear(r)
		} else {
			p[i] = drawFar(r)
		}
	}
	return p
}

func TestDoubleAreaOfRandomLists(t *testing.T) {
	r := rand.New(rand.NewSource(4))
	for range 20000 {
		p := drawList(r)
		if got, want := polygon.DoubleArea(p), areaOf(p); !want.IsInt64() || int64(got) != want.Int64() {
			t.Fatalf("DoubleArea(%v) = %d, want %v", p, got, want)
		}
	}
}

// checkVariety reports an error if points of some position occurred too rarely to be tested.
func checkVariety(t *testing.T, seen map[int]int) {
	t.Helper()
	for where := -1; where <= 1; where++ {
		if seen[where] < 1000 {
			t.Errorf("only %d points have the position %d", seen[where], where)
		}
	}
}

// P3.1 (C3): all points on and around all small polygons of a grid.
func TestLocateOnGrid(t *testing.T) {
	around := grid(-1, 3)
	tried := 0
	check := func(p api.Polygon) {
		if !isValid(p) {
			return
		}
		tried++
		for _, x := range around {
			if got, want := polygon.Locate(p, x), whereIs(p, x); got != want {
				t.Fatalf("Locate(%v, %v) = %d, want %d", p, x, got, want)
			}
		}
	}
	for n := 3; n <= 5; n++ {
		eachList(grid(0, 2), n, check)
	}
	if tried < 1000 {
		t.Errorf("only %d polygons were tried", tried)
	}
}

// P3.1 (C3): all points on and around polygons with up to 12 corners.
func TestLocateAroundPolygons(t *testing.T) {
	seen := map[int]int{}
	for _, p := range nearPolygons() {
		for _, x := range grid(-7, 12) {
			where := polygon.Locate(p, x)
			if want := whereIs(p, x); where != want {
				t.Fatalf("Locate(%v, %v) = %d, want %d", p, x, where, want)
			}
			seen[where]++
		}
	}
	checkVariety(t, seen)
}

// nearCorner returns a valid point next to a corner of p, or level with two of them.
func nearCorner(r *rand.Rand, p api.Polygon) api.Point {
	a, b := p[r.Intn(len(p))], p[r.Intn(len(p))]
	if r.Intn(2) == 0 {
		return pt(a.X, b.Y)
	}
	return pt(max(-far, min(far, a.X+r.Intn(3)-1)), max(-far, min(far, a.Y+r.Intn(3)-1)))
}

// P3.1 (C3): polygons and points in the whole range.
func TestLocateInTheWholeRange(t *testing.T) {
	r := rand.New(rand.NewSource(5))
	seen := map[int]int{}
	for _, p := range farPolygons() {
		for range 500 {
			x := nearCorner(r, p)
			if r.Intn(2) == 0 {
				x = drawFar(r)
			}
			where := polygon.Locate(p, x)
			if want := whereIs(p, x); where != want {
				t.Fatalf("Locate(%v, %v) = %d, want %d", p, x, where, want)
			}
			seen[where]++
		}
	}
	checkVariety(t, seen)
}

func TestLocateExamples(t *testing.T) {
	notch := poly(0, 0, 8, 0, 8, 4, 5, 4, 4, 1, 3, 4, 0, 4)
	sliver := poly(-far, -far, far, far-1, far, far)
	for _, x := range []struct {
		what string
		p    api.Polygon
		x    api.Point
		want int
	}{
		{"in the notch", notch, pt(4, 3), -1},
		{"at the end of the notch", notch, pt(4, 1), 0},
		{"below the notch", notch, pt(3, 1), 1},
		{"level with the upper edges, between them", notch, pt(4, 4), -1},
		{"level with the upper edges, to the left", notch, pt(-1, 4), -1},
		{"level with the lower edge, to the left", notch, pt(-1, 0), -1},
		{"level with the lower edge, to the right", notch, pt(9, 0), -1},
		{"on the lower edge", notch, pt(4, 0), 0},
		{"the first corner", notch, pt(0, 0), 0},
		{"the last corner", notch, pt(0, 4), 0},
		{"on the last edge", notch, pt(0, 2), 0},
		{"on an end of the sliver", sliver, pt(-far, -far), 0},
		{"on the sliver's upper edge", sliver, pt(0, 0), 0},
		{"just inside the sliver", sliver, pt(far-1, far-1), 0},
		{"just below the sliver", sliver, pt(0, -1), -1},
		{"just above the sliver", sliver, pt(-1, 0), -1},
	} {
		if got := polygon.Locate(x.p, x.x); got != x.want {
			t.Errorf("%s: Locate(%v, %v) = %d, want %d", x.what, x.p, x.x, got, x.want)
		}
	}
}

// P3.1 (C4): translations of any list of points, as long as the sums are within the bounds.
func TestTranslate(t *testing.T) {
	const bound = 1 << 62
	for _, x := range []struct {
		p    api.Polygon
		by   api.Point
		want api.Polygon
	}{
		{nil, pt(5, 6), nil},
		{api.Polygon{}, pt(bound, -bound), nil},
		{poly(1, 2), pt(10, -20), poly(11, -18)},
		{poly(0, 0, 4, 0, 4, 4), pt(0, 0), poly(0, 0, 4, 0, 4, 4)},
		{poly(0, 0, 4, 0, 4, 4), pt(-1, 2), poly(-1, 2, 3, 2, 3, 6)},
		{poly(4, 4, 4, 0, 0, 0), pt(1, 0), poly(5, 4, 5, 0, 1, 0)},
		{poly(3, 3, 3, 3), pt(0, 1), poly(3, 4, 3, 4)},
		{poly(bound, -bound, 0, 0), pt(-bound, bound), poly(0, 0, -bound, bound)},
		{poly(bound/2, bound/2, -bound, -1), pt(bound/2, 0), poly(bound, bound/2, -bound/2, -1)},
		{arc(3), pt(far, -far), poly(far, -far, far+1, 1-far, far+2, 4-far)},
		{arc(100), pt(7, 8), moved(arc(100), 7, 8)},
	} {
		if got := polygon.Translate(x.p, x.by); !slices.Equal(got, x.want) {
			t.Errorf("Translate(%v, %v) = %v, want %v", x.p, x.by, got, x.want)
		}
	}
}

func TestTranslateAddsToEachCorner(t *testing.T) {
	r := rand.New(rand.NewSource(6))
	for range 5000 {
		p, by := drawList(r), drawFar(r)
		if got, want := polygon.Translate(p, by), moved(p, by.X, by.Y); !slices.Equal(got, want) {
			t.Fatalf("Translate(%v, %v) = %v, want %v", p, by, got, want)
		}
	}
}

// turned returns p rotated by q, if all corners of the result are integers.
func turned(p api.Polygon, q int) (api.Polygon, bool) {
	c, s := rotation.CosSin(q)
	exact := true
	image := mapped(p, func(x api.Point) api.Point {
		u, v := x.X*c-x.Y*s, x.X*s+x.Y*c
		exact = exact && u%65 == 0 && v%65 == 0
		return pt(u/65, v/65)
	})
	if !exact {
		return nil, false
	}
	return image, true
}

// checkTurn compares Rotate with the definition.
func checkTurn(t *testing.T, p api.Polygon, q int) {
	t.Helper()
	want, is := turned(p, q)
	if got, ok := polygon.Rotate(p, q); ok != is || !slices.Equal(got, want) {
		t.Fatalf("Rotate(%v, %d) = %v, %v, want %v, %v", p, q, got, ok, want, is)
	}
}

// P3.1 (C4): rotations of any list of valid points by any index.
func TestRotate(t *testing.T) {
	r := rand.New(rand.NewSource(7))
	for q := -72; q <= 72; q++ {
		for range 100 {
			p := drawList(r)
			checkTurn(t, p, q)
			p = scaled(mapped(p, func(c api.Point) api.Point { return pt(c.X/65, c.Y/65) }), 65)
			checkTurn(t, p, q)
			if _, ok := polygon.Rotate(p, q); !ok {
				t.Fatalf("Rotate(%v, %d) fails", p, q)
			}
		}
	}
	for _, q := range []int{math.MinInt, math.MinInt + 1, -1000, 1000, math.MaxInt - 1, math.MaxInt} {
		checkTurn(t, poly(0, 0, 65, 0, 65, 130), q)
		checkTurn(t, poly(0, 0, 1, 0, 1, 2), q)
	}
}

func TestRotateExamples(t *testing.T) {
	for _, x := range []struct {
		p    api.Polygon
		q    int
		want api.Polygon
		ok   bool
	}{
		{nil, 0, nil, true},
		{nil, 1, nil, true},
		{api.Polygon{}, 17, nil, true},
		{poly(0, 0, 65, 0, 65, 130), 1, poly(0, 0, 63, 16, 31, 142), true},
		{poly(0, 0, 65, 0, 65, 130), -1, poly(0, 0, 63, -16, 95, 110), true},
		{poly(1, 2, 3, 4), 0, poly(1, 2, 3, 4), true},
		{poly(1, 2, 3, 4), 9, poly(-2, 1, -4, 3), true},
		{poly(1, 2, 3, 4), 18, poly(-1, -2, -3, -4), true},
		{poly(1, 2, 3, 4), -9, poly(2, -1, 4, -3), true},
		{poly(1, 2, 3, 4), 1, nil, false},
		{poly(-8, 1), 1, poly(-8, -1), true},
		{poly(-8, 1), 2, nil, false},
		{poly(far, far), 1, poly(317720000, 534040000), true},
		{poly(far, -far+1), 1, nil, false},
	} {
		if got, ok := polygon.Rotate(x.p, x.q); ok != x.ok || !slices.Equal(got, x.want) {
			t.Errorf("Rotate(%v, %d) = %v, %v, want %v, %v", x.p, x.q, got, ok, x.want, x.ok)
		}
	}
}

// P3.1 (C4) and P2: a rotation that fails for one corner, wherever it is, returns nil.
func TestRotateWithOneInexactCorner(t *testing.T) {
	for _, p := range nearPolygons() {
		p = scaled(p, 65)
		for i := range p {
			for q := range 36 {
				for _, by := range []api.Point{pt(1, 0), pt(0, 1)} {
					bad := slices.Clone(p)
					bad[i] = pt(p[i].X+by.X, p[i].Y+by.Y)
					got, ok := polygon.Rotate(bad, q)
					if ok != (q%9 == 0) || !ok && got != nil {
						t.Fatalf("Rotate(%v, %d) = %v, %v", bad, q, got, ok)
					}
				}
			}
		}
	}
}

// P3.2: the corner with which the list begins does not matter.
func TestCyclicOrder(t *testing.T) {
	r := rand.New(rand.NewSource(8))
	for range 20000 {
		p := make(api.Polygon, 3+r.Intn(4))
		for i := range p {
			p[i] = drawNear(r)
		}
		for k := range p {
			q := startingAt(p, k)
			if polygon.Valid(q) != polygon.Valid(p) || polygon.DoubleArea(q) != polygon.DoubleArea(p) {
				t.Fatalf("%v and %v differ", p, q)
			}
		}
	}
	for _, p := range allPolygons() {
		for k := range p {
			q := startingAt(p, k)
			if !polygon.Valid(q) || polygon.DoubleArea(q) != polygon.DoubleArea(p) {
				t.Fatalf("%v and %v differ", p, q)
			}
			for range 50 {
				for _, x := range []api.Point{drawNear(r), nearCorner(r, p), drawFar(r)} {
					if polygon.Locate(q, x) != polygon.Locate(p, x) {
						t.Fatalf("%v and %v differ at %v", p, q, x)
					}
				}
			}
		}
	}
}

// P3.2: reversing a valid polygon makes it invalid and negates its area.
func TestReversing(t *testing.T) {
	for _, p := range allPolygons() {
		q := reversed(p)
		if polygon.Valid(q) || polygon.DoubleArea(q) != -polygon.DoubleArea(p) || polygon.DoubleArea(p) <= 0 {
			t.Errorf("the areas of %v and its reverse are %d and %d; the reverse is valid: %v", p, polygon.DoubleArea(p), polygon.DoubleArea(q), polygon.Valid(q))
		}
	}
}

// P3.3: the triangles formed by any point and each edge add up to the whole.
func TestAreaFromReferencePoint(t *testing.T) {
	r := rand.New(rand.NewSource(9))
	for _, p := range allPolygons() {
		for range 20 {
			for _, x := range []api.Point{drawNear(r), drawFar(r), p[r.Intn(len(p))]} {
				sum := 0
				for i, a := range p {
					sum += polygon.DoubleArea(api.Polygon{x, a, after(p, i)})
				}
				if want := polygon.DoubleArea(p); sum != want {
					t.Fatalf("the triangles of %v and %v add up to %d, not %d", p, x, sum, want)
				}
			}
		}
	}
}

// P3.3: the areas of both sides of a cut add up to the whole.
func TestAreaOfCuts(t *testing.T) {
	for _, p := range allPolygons() {
		for j := range p {
			for i := range j {
				one, other := p[i:j+1], slices.Concat(p[j:], p[:i+1])
				if got, want := polygon.DoubleArea(one)+polygon.DoubleArea(other), polygon.DoubleArea(p); got != want {
					t.Fatalf("%v cut from %d to %d: %d, not %d", p, i, j, got, want)
				}
			}
		}
	}
}

// isInRange reports whether all corners of p are valid points.
func isInRange(p api.Polygon) bool {
	return !slices.ContainsFunc(p, func(c api.Point) bool { return c.X < -far || c.X > far || c.Y < -far || c.Y > far })
}

// P3.4: translated polygons are valid as long as their corners are in range, and their area and the points' positions remain.
func TestTranslationsAreRigid(t *testing.T) {
	r := rand.New(rand.NewSource(10))
	kept, left := 0, 0
	for _, p := range allPolygons() {
		for range 50 {
			x := nearCorner(r, p)
			v := drawNear(r)
			if r.Intn(3) == 0 {
				v = drawFar(r)
			}
			q := polygon.Translate(p, v)
			in := isInRange(q)
			if polygon.Valid(q) != in {
				t.Fatalf("Valid(%v) = %v", q, !in)
			}
			if !in {
				left++
				continue
			}
			kept++
			if polygon.DoubleArea(q) != polygon.DoubleArea(p) {
				t.Fatalf("%v and %v have different areas", p, q)
			}
			y := pt(x.X+v.X, x.Y+v.Y)
			if isInRange(api.Polygon{y}) && polygon.Locate(q, y) != polygon.Locate(p, x) {
				t.Fatalf("%v relative to %v is not as %v relative to %v", y, q, x, p)
			}
		}
	}
	if kept < 1000 || left < 1000 {
		t.Errorf("%d polygons remained in range and %d did not", kept, left)
	}
}

// P3.4: rotated polygons are valid as long as their corners are in range, and their area and the points' positions remain.
func TestRotationsAreRigid(t *testing.T) {
	kept, left := 0, 0
	for _, small := range nearPolygons() {
		for _, scale := range []int{65, 65 * 600000, 65 * 1600000} {
			p := scaled(small, scale)
			if !isInRange(p) {
				continue
			}
			for q := range 36 {
				a, ok := polygon.Rotate(p, q)
				in := isInRange(a)
				if !ok || polygon.Valid(a) != in {
					t.Fatalf("Rotate(%v, %d) = %v, %v", p, q, a, ok)
				}
				if !in {
					left++
					continue
				}
				kept++
				checkPositions(t, small, scale, a, q)
			}
		}
	}
	if kept < 1000 || left < 1000 {
		t.Errorf("%d polygons remained in range and %d did not", kept, left)
	}
}

// checkPositions compares the area of a, and the positions of points relative to it, with those of small, from which it was made by scaling and rotating by q.
func checkPositions(t *testing.T, small api.Polygon, scale int, a api.Polygon, q int) {
	t.Helper()
	if polygon.DoubleArea(a) != scale*scale*polygon.DoubleArea(small) {
		t.Fatalf("%v rotated by %d has the area %d", small, q, polygon.DoubleArea(a))
	}
	for _, x := range grid(-4, 4) {
		l, ok := polygon.Rotate(api.Polygon{pt(scale*x.X, scale*x.Y)}, q)
		if !ok {
			t.Fatalf("%v times %d cannot be rotated by %d", x, scale, q)
		}
		if isInRange(l) && polygon.Locate(a, l[0]) != polygon.Locate(small, x) {
			t.Fatalf("%v relative to %v is not as before its rotation by %d", l[0], a, q)
		}
	}
}

// P3.4: invalid polygons remain invalid.
func TestMotionsOfInvalidPolygons(t *testing.T) {
	for _, p := range []api.Polygon{
		poly(0, 0, 0, 4, 4, 4),
		poly(0, 0, 2, 0, 4, 0, 4, 4),
		poly(0, 0, 4, 0, 4, 0, 4, 4),
		poly(4, 6, 10, 0, 10, 10, 0, 0),
		poly(0, 0, 6, 0, 6, 4, 3, 0, 0, 4),
		poly(0, 0, 4, 0),
		arc(13),
	} {
		p = scaled(p, 65)
		for q := range 36 {
			a, ok := polygon.Rotate(p, q)
			if !ok || polygon.Valid(a) || polygon.Valid(polygon.Translate(a, pt(q, 1-2*q))) {
				t.Errorf("Rotate(%v, %d) = %v, %v", p, q, a, ok)
			}
		}
	}
}

// P3.4: rotating forward and back restores a polygon, and so does translating forward and back.
func TestForwardAndBack(t *testing.T) {
	r := rand.New(rand.NewSource(11))
	for _, p := range nearPolygons() {
		for _, scale := range []int{1, 5, 13, 65} {
			for q := -40; q <= 40; q++ {
				there, ok := polygon.Rotate(scaled(p, scale), q)
				if !ok {
					continue
				}
				back, ok := polygon.Rotate(there, rotation.Inverse(q))
				if !ok || !polygon.Equal(back, scaled(p, scale)) {
					t.Fatalf("%v rotated by %d and back is %v, %v", scaled(p, scale), q, back, ok)
				}
			}
		}
		v := drawFar(r)
		if back := polygon.Translate(polygon.Translate(p, v), pt(-v.X, -v.Y)); !polygon.Equal(back, p) {
			t.Fatalf("%v translated by %v and back is %v", p, v, back)
		}
	}
}

// P3.5: corners, and all other points of edges, lie on an edge.
func TestPointsOfEdges(t *testing.T) {
	for _, p := range allPolygons() {
		for i, a := range p {
			if where := polygon.Locate(p, a); where != 0 {
				t.Errorf("Locate(%v, %v) = %d, but it is a corner", p, a, where)
			}
			b := after(p, i)
			for _, x := range grid(-7, 12) {
				if onEdge := cross(a, b, a, x) == 0 && dot(a, x, b, x) <= 0; onEdge && polygon.Locate(p, x) != 0 {
					t.Errorf("Locate(%v, %v) = %d, but it lies on edge %d", p, x, polygon.Locate(p, x), i)
				}
			}
		}
	}
}

// meetsEdge reports whether the segment from x to y intersects an edge of p.
func meetsEdge(p api.Polygon, x, y api.Point) bool {
	for i, a := range p {
		if geom.SegmentsIntersect(a, after(p, i), x, y) {
			return true
		}
	}
	return false
}

// P3.5: a segment from the interior to a point that is not interior intersects an edge.
func TestSegmentsThatLeave(t *testing.T) {
	r := rand.New(rand.NewSource(12))
	leaving := 0
	for _, p := range allPolygons() {
		for range 300 {
			x, y := drawNear(r), drawNear(r)
			if r.Intn(2) == 0 {
				x, y = nearCorner(r, p), drawFar(r)
			}
			if polygon.Locate(p, x) != 1 || polygon.Locate(p, y) == 1 {
				continue
			}
			leaving++
			if !meetsEdge(p, x, y) {
				t.Fatalf("%v is inside %v and %v is not, but no edge is between them", x, p, y)
			}
		}
	}
	if leaving < 1000 {
		t.Errorf("only %d segments leave", leaving)
	}
}

// P3.5: points beyond all corners in one direction are in the exterior, and so are points that are level with corners.
func TestPointsBeyondAllCorners(t *testing.T) {
	for _, p := range nearPolygons() {
		low, high := geom.BoundingBox(p)
		for _, c := range slices.Concat(p, grid(-7, 12)) {
			for _, x := range []api.Point{
				pt(c.X, high.Y+1), pt(c.X, far), pt(high.X+1, c.Y), pt(far, c.Y),
				pt(c.X, low.Y-1), pt(c.X, -far), pt(low.X-1, c.Y), pt(-far, c.Y),
			} {
				if where := polygon.Locate(p, x); where != -1 {
					t.Fatalf("Locate(%v, %v) = %d", p, x, where)
				}
			}
		}
	}
}

// P1: the functions return for every polygon for which they are specified.
func TestEveryCallReturns(t *testing.T) {
	wild := []int{math.MinInt, math.MinInt + 1, -1 << 62, -far - 1, 0, far + 1, 1 << 62, math.MaxInt}
	var l api.Polygon
	for _, x := range wild {
		for _, y := range wild {
			l = append(l, pt(x, y))
		}
	}
	for n := range len(l) + 1 {
		if polygon.Valid(l[:n]) || !polygon.Equal(l[:n], l[:n]) || len(polygon.Translate(l[:n], pt(1, -1))) != n {
			t.Errorf("%d corners", n)
		}
	}
	valid := grid(-2, 2)
	for i := range valid {
		valid[i] = pt(valid[i].X*far/2, valid[i].Y*far/2)
	}
	for n := range len(valid) + 1 {
		for q := -40; q <= 40; q++ {
			if p, ok := polygon.Rotate(valid[:n], q); !ok || len(p) != n {
				t.Errorf("%d corners rotated by %d: %v, %v", n, q, p, ok)
			}
		}
	}
}

// P3: polygons that were passed in remain as they were, and results share no memory with them.
func TestArgumentsStay(t *testing.T) {
	for _, p := range allPolygons() {
		old := slices.Clone(p)
		polygon.Valid(p)
		polygon.DoubleArea(p)
		polygon.Locate(p, pt(1, 1))
		polygon.Equal(p, startingAt(p, 1))
		turnedOnce, _ := polygon.Rotate(p, 0)
		for _, result := range []api.Polygon{turnedOnce, polygon.Translate(p, pt(0, 0))} {
			if !slices.Equal(result, p) {
				t.Fatalf("%v became %v", p, result)
			}
			for i := range result {
				result[i] = pt(99, 99)
			}
		}
		if !slices.Equal(p, old) {
			t.Fatalf("%v became %v", old, p)
		}
	}
}

// results collects what all functions return for one polygon.
type results struct {
	valid, equal, exact bool
	area, where         int
	moved, turned       api.Polygon
}

// callAll calls every function of the package.
func callAll(p api.Polygon, x api.Point, q int) results {
	var r results
	r.valid, r.equal = polygon.Valid(p), polygon.Equal(p, startingAt(p, q%len(p)))
	r.area, r.where = polygon.DoubleArea(p), polygon.Locate(p, x)
	r.moved = polygon.Translate(p, x)
	r.turned, r.exact = polygon.Rotate(p, q)
	return r
}

// isSame reports whether two results are equal.
func isSame(a, b results) bool {
	same := slices.Equal(a.moved, b.moved) && slices.Equal(a.turned, b.turned) && a.valid == b.valid && a.equal == b.equal
	return same && a.exact == b.exact && a.area == b.area && a.where == b.where
}

// P3: the results depend on the arguments only, not on earlier calls or on others at the same time.
func TestResultsDependOnArgumentsOnly(t *testing.T) {
	l := allPolygons()
	first := make([]results, len(l))
	for i, p := range l {
		first[i] = callAll(p, pt(1, 2), i%36)
	}
	var g sync.WaitGroup
	for range 4 {
		g.Go(func() {
			for i := len(l) - 1; i >= 0; i-- {
				if again := callAll(l[i], pt(1, 2), i%36); !isSame(again, first[i]) {
					t.Errorf("%v: %v, then %v", l[i], first[i], again)
				}
			}
		})
	}
	g.Wait()
}
