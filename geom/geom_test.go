package geom_test

import (
	"math"
	"math/big"
	"math/rand"
	"slices"
	"sync"
	"testing"

	"ambidexter/api"
	"ambidexter/geom"
)

// far is the largest coordinate of a point in range.
const far = 439400000

// pt is a point.
func pt(x, y int) api.Point { return api.Point{X: x, Y: y} }

// grid returns all points whose coordinates are in l.
func grid(l ...int) []api.Point {
	var g []api.Point
	for _, x := range l {
		for _, y := range l {
			g = append(g, pt(x, y))
		}
	}
	return g
}

// borderPoints are points at the ends of the range, next to them, and around the origin.
func borderPoints() []api.Point { return grid(-far, 1-far, 0, 1, far-1, far) }

// triples returns all ways to choose three points of l one after the other.
func triples(l []api.Point) [][3]api.Point {
	var g [][3]api.Point
	for _, a := range l {
		for _, b := range l {
			for _, p := range l {
				g = append(g, [3]api.Point{a, b, p})
			}
		}
	}
	return g
}

// drawPoint returns a point in range: half of the time near the origin, so that coincidences occur.
func drawPoint(r *rand.Rand) api.Point {
	if r.Intn(2) == 0 {
		return pt(r.Intn(7)-3, r.Intn(7)-3)
	}
	return pt(r.Intn(2*far+1)-far, r.Intn(2*far+1)-far)
}

// drawPoints returns between 1 and 6 points.
func drawPoints(r *rand.Rand) []api.Point {
	l := make([]api.Point, 1+r.Intn(6))
	for i := range l {
		l[i] = drawPoint(r)
	}
	return l
}

// quarter returns p rotated by a quarter turn about the origin.
func quarter(p api.Point) api.Point { return pt(-p.Y, p.X) }

// moved returns p translated by v.
func moved(p, v api.Point) api.Point { return pt(p.X+v.X, p.Y+v.Y) }

// wrapped returns the number of 64 bits that is congruent to b modulo 2 to the power 64.
func wrapped(b *big.Int) int {
	low := new(big.Int).And(b, new(big.Int).SetUint64(math.MaxUint64))
	return int(low.Uint64())
}

// P2.1 (B1): component-wise sums and differences, and those that wrap around.
func TestAddAndSub(t *testing.T) {
	l := grid(math.MinInt, math.MinInt+1, -far, -1, 0, 3, far, math.MaxInt-1, math.MaxInt)
	for _, a := range l {
		for _, b := range l {
			ax, ay, bx, by := big.NewInt(int64(a.X)), big.NewInt(int64(a.Y)), big.NewInt(int64(b.X)), big.NewInt(int64(b.Y))
			sum := pt(wrapped(new(big.Int).Add(ax, bx)), wrapped(new(big.Int).Add(ay, by)))
			if got := geom.Add(a, b); got != sum {
				t.Errorf("Add(%v, %v) = %v, want %v", a, b, got, sum)
			}
			difference := pt(wrapped(new(big.Int).Sub(ax, bx)), wrapped(new(big.Int).Sub(ay, by)))
			if got := geom.Sub(a, b); got != difference {
				t.Errorf("Sub(%v, %v) = %v, want %v", a, b, got, difference)
			}
		}
	}
}

func TestAddAndSubExamples(t *testing.T) {
	for _, x := range []struct{ a, b, sum, difference api.Point }{
		{pt(1, 2), pt(30, 40), pt(31, 42), pt(-29, -38)},
		{pt(-5, 7), pt(0, 0), pt(-5, 7), pt(-5, 7)},
		{pt(math.MaxInt, math.MinInt), pt(1, -1), pt(math.MinInt, math.MaxInt), pt(math.MaxInt-1, math.MinInt+1)},
		{pt(math.MinInt, math.MaxInt), pt(1, -1), pt(math.MinInt+1, math.MaxInt-1), pt(math.MaxInt, math.MinInt)},
		{pt(math.MinInt, 0), pt(math.MinInt, math.MinInt), pt(0, math.MinInt), pt(0, math.MinInt)},
	} {
		if got := geom.Add(x.a, x.b); got != x.sum {
			t.Errorf("Add(%v, %v) = %v, want %v", x.a, x.b, got, x.sum)
		}
		if got := geom.Sub(x.a, x.b); got != x.difference {
			t.Errorf("Sub(%v, %v) = %v, want %v", x.a, x.b, got, x.difference)
		}
	}
}

// signOfArea returns the sign of the sum of the products of neighboring corners, computed without bounds.
func signOfArea(a, b, p api.Point) int {
	sum := new(big.Int)
	l := []api.Point{a, b, p}
	for i, u := range l {
		v := l[(i+1)%len(l)]
		sum.Add(sum, new(big.Int).Mul(big.NewInt(int64(u.X)), big.NewInt(int64(v.Y))))
		sum.Sub(sum, new(big.Int).Mul(big.NewInt(int64(v.X)), big.NewInt(int64(u.Y))))
	}
	return sum.Sign()
}

// P2.1 (B2): left is 1, right is -1, collinear is 0.
func TestOrientationExamples(t *testing.T) {
	for _, x := range []struct {
		a, b, p api.Point
		want    int
	}{
		{pt(0, 0), pt(2, 0), pt(1, 1), 1},
		{pt(0, 0), pt(2, 0), pt(1, -1), -1},
		{pt(0, 0), pt(2, 0), pt(1, 0), 0},
		{pt(0, 0), pt(2, 0), pt(7, 0), 0},
		{pt(0, 0), pt(2, 0), pt(-7, 0), 0},
		{pt(2, 0), pt(0, 0), pt(1, 1), -1},
		{pt(3, 4), pt(3, 9), pt(2, 5), 1},
		{pt(3, 4), pt(3, 4), pt(100, -7), 0},
		{pt(3, 4), pt(5, 6), pt(3, 4), 0},
		{pt(3, 4), pt(5, 6), pt(5, 6), 0},
		{pt(3, 4), pt(3, 4), pt(3, 4), 0},
		{pt(-far, -far), pt(far, far), pt(0, 0), 0},
		{pt(-far, -far), pt(far, far), pt(0, 1), 1},
		{pt(-far, -far), pt(far, far), pt(1, 0), -1},
		{pt(-far, -far), pt(far, far-1), pt(far-1, far-1), 1},
		{pt(-far, -far), pt(far, far-1), pt(far-1, far-2), -1},
		{pt(-far, far), pt(far, -far), pt(far, far), 1},
		{pt(-far, -far), pt(far, -far), pt(-far, far), 1},
	} {
		if got := geom.Orientation(x.a, x.b, x.p); got != x.want {
			t.Errorf("Orientation(%v, %v, %v) = %d, want %d", x.a, x.b, x.p, got, x.want)
		}
	}
}

func TestOrientation(t *testing.T) {
	l := append(triples(grid(-2, -1, 0, 1, 2)), triples(borderPoints())...)
	r := rand.New(rand.NewSource(1))
	for range 20000 {
		l = append(l, [3]api.Point{drawPoint(r), drawPoint(r), drawPoint(r)})
	}
	for _, x := range l {
		a, b, p := x[0], x[1], x[2]
		if got, want := geom.Orientation(a, b, p), signOfArea(a, b, p); got != want {
			t.Fatalf("Orientation(%v, %v, %v) = %d, want %d", a, b, p, got, want)
		}
	}
}

// P2.2: swaps negate the orientation, cyclic rotations, translations and quarter turns leave it.
func TestOrientationSymmetries(t *testing.T) {
	r := rand.New(rand.NewSource(2))
	for range 20000 {
		a, b, p := drawPoint(r), drawPoint(r), drawPoint(r)
		o := geom.Orientation(a, b, p)
		if geom.Orientation(b, a, p) != -o || geom.Orientation(a, p, b) != -o || geom.Orientation(p, b, a) != -o {
			t.Fatalf("%v, %v, %v: a swap does not negate %d", a, b, p, o)
		}
		if geom.Orientation(b, p, a) != o || geom.Orientation(p, a, b) != o {
			t.Fatalf("%v, %v, %v: a cyclic rotation changes %d", a, b, p, o)
		}
		if geom.Orientation(quarter(a), quarter(b), quarter(p)) != o {
			t.Fatalf("%v, %v, %v: a quarter turn changes %d", a, b, p, o)
		}
		low, high := bounds([]api.Point{a, b, p})
		for _, v := range []api.Point{pt(-far-low.X, -far-low.Y), pt(far-high.X, far-high.Y), pt(-far-low.X, far-high.Y)} {
			if geom.Orientation(moved(a, v), moved(b, v), moved(p, v)) != o {
				t.Fatalf("%v, %v, %v: the translation by %v changes %d", a, b, p, v, o)
			}
		}
	}
}

// isBetween reports whether a + s(b-a)/n = p for some integer s in 0..n, where n is the square of the segment's length: p is then its own projection onto the segment.
func isBetween(a, b, p api.Point) bool {
	u, v := pt(b.X-a.X, b.Y-a.Y), pt(p.X-a.X, p.Y-a.Y)
	n, s := big.NewInt(int64(u.X*u.X+u.Y*u.Y)), big.NewInt(int64(u.X*v.X+u.Y*v.Y))
	if n.Sign() == 0 {
		return p == a
	}
	if s.Sign() < 0 || s.Cmp(n) > 0 {
		return false
	}
	same := func(along, to int) bool {
		left := new(big.Int).Mul(s, big.NewInt(int64(along)))
		return left.Cmp(new(big.Int).Mul(n, big.NewInt(int64(to)))) == 0
	}
	return same(u.X, v.X) && same(u.Y, v.Y)
}

// P2.1 (B3): the points of a segment, in any direction of it.
func TestOnSegment(t *testing.T) {
	for _, x := range append(triples(grid(-3, -2, -1, 0, 1, 2, 3)), triples(borderPoints())...) {
		if got, want := geom.OnSegment(x[0], x[1], x[2]), isBetween(x[0], x[1], x[2]); got != want {
			t.Fatalf("OnSegment(%v, %v, %v) = %v, want %v", x[0], x[1], x[2], got, want)
		}
	}
}

func TestOnSegmentExamples(t *testing.T) {
	for _, x := range []struct {
		a, b, p api.Point
		want    bool
	}{
		{pt(0, 0), pt(4, 2), pt(2, 1), true},
		{pt(0, 0), pt(4, 2), pt(6, 3), false},
		{pt(0, 0), pt(4, 2), pt(-2, -1), false},
		{pt(0, 0), pt(4, 2), pt(0, 0), true},
		{pt(0, 0), pt(4, 2), pt(4, 2), true},
		{pt(0, 0), pt(4, 2), pt(2, 2), false},
		{pt(0, 0), pt(4, 2), pt(1, 0), false},
		{pt(5, 5), pt(5, 5), pt(5, 5), true},
		{pt(5, 5), pt(5, 5), pt(5, 6), false},
		{pt(5, 5), pt(5, 5), pt(4, 5), false},
		{pt(7, -3), pt(7, 8), pt(7, 0), true},
		{pt(7, -3), pt(7, 8), pt(7, 9), false},
		{pt(7, -3), pt(7, 8), pt(7, -4), false},
		{pt(-3, 7), pt(8, 7), pt(9, 7), false},
		{pt(8, 7), pt(-3, 7), pt(-3, 7), true},
		{pt(-far, far), pt(far, -far), pt(1, -1), true},
		{pt(-far, far), pt(far, -far), pt(1, 0), false},
		{pt(-far, -far), pt(far, far-1), pt(far-1, far-1), false},
	} {
		if got := geom.OnSegment(x.a, x.b, x.p); got != x.want {
			t.Errorf("OnSegment(%v, %v, %v) = %v, want %v", x.a, x.b, x.p, got, x.want)
		}
	}
}

// linesMeetBetween reports, for segments that are not parallel, whether the common point of their lines lies between both pairs of endpoints: the parameters of that point on both lines are between 0 and 1.
func linesMeetBetween(a, b, c, d api.Point) (meet, parallel bool) {
	u, v, w := pt(b.X-a.X, b.Y-a.Y), pt(d.X-c.X, d.Y-c.Y), pt(c.X-a.X, c.Y-a.Y)
	n := u.X*v.Y - u.Y*v.X
	if n == 0 {
		return false, true
	}
	s, r := w.X*v.Y-w.Y*v.X, w.X*u.Y-w.Y*u.X
	if n < 0 {
		n, s, r = -n, -s, -r
	}
	return 0 <= s && s <= n && 0 <= r && r <= n, false
}

// haveCommonPoint reports whether two closed segments have a common point.
func haveCommonPoint(a, b, c, d api.Point) bool {
	meet, parallel := linesMeetBetween(a, b, c, d)
	if !parallel {
		return meet
	}
	// Parallel segments have a common point only if an endpoint of one is in the other.
	return isBetween(a, b, c) || isBetween(a, b, d) || isBetween(c, d, a) || isBetween(c, d, b)
}

// checkAllPairs compares all pairs of segments between points of l.
func checkAllPairs(t *testing.T, l []api.Point) {
	t.Helper()
	for _, a := range l {
		for _, b := range l {
			for _, c := range l {
				for _, d := range l {
					if got, want := geom.SegmentsIntersect(a, b, c, d), haveCommonPoint(a, b, c, d); got != want {
						t.Fatalf("SegmentsIntersect(%v, %v, %v, %v) = %v, want %v", a, b, c, d, got, want)
					}
				}
			}
		}
	}
}

// P2.1 (B3) and P2.3: crossing, touching, parallel and overlapping segments and single points, near the origin and at the ends of the range.
func TestSegmentsIntersect(t *testing.T) {
	checkAllPairs(t, grid(-1, 0, 1, 3))
	checkAllPairs(t, grid(-far, 0, 1, far-1, far))
}

func TestSegmentsIntersectExamples(t *testing.T) {
	for _, x := range []struct {
		what       string
		a, b, c, d api.Point
		want       bool
	}{
		{"a crossing", pt(0, 0), pt(4, 4), pt(0, 4), pt(4, 0), true},
		{"a crossing between integers", pt(0, 0), pt(1, 1), pt(0, 1), pt(1, 0), true},
		{"a crossing at thirds", pt(0, 0), pt(3, 1), pt(1, 1), pt(1, 0), true},
		{"a line that crosses beyond the end", pt(0, 0), pt(1, 1), pt(0, 4), pt(4, 0), false},
		{"a T with a gap", pt(0, 0), pt(4, 0), pt(2, 1), pt(2, 5), false},
		{"a T", pt(0, 0), pt(4, 0), pt(2, 0), pt(2, 5), true},
		{"a common end point", pt(0, 0), pt(4, 1), pt(4, 1), pt(9, 0), true},
		{"a common first point", pt(4, 1), pt(0, 0), pt(4, 1), pt(9, 0), true},
		{"parallel", pt(0, 0), pt(4, 2), pt(0, 1), pt(4, 3), false},
		{"collinear and apart", pt(0, 0), pt(2, 1), pt(4, 2), pt(6, 3), false},
		{"collinear and touching", pt(0, 0), pt(4, 2), pt(4, 2), pt(6, 3), true},
		{"overlapping", pt(0, 0), pt(4, 2), pt(2, 1), pt(6, 3), true},
		{"one within the other", pt(0, 0), pt(6, 3), pt(2, 1), pt(4, 2), true},
		{"equal", pt(1, 2), pt(6, 3), pt(1, 2), pt(6, 3), true},
		{"opposite", pt(1, 2), pt(6, 3), pt(6, 3), pt(1, 2), true},
		{"a point inside", pt(0, 0), pt(4, 2), pt(2, 1), pt(2, 1), true},
		{"a point at the end", pt(0, 0), pt(4, 2), pt(4, 2), pt(4, 2), true},
		{"a point beside", pt(0, 0), pt(4, 2), pt(2, 2), pt(2, 2), false},
		{"a point on the line beyond", pt(0, 0), pt(4, 2), pt(6, 3), pt(6, 3), false},
		{"equal points", pt(7, 7), pt(7, 7), pt(7, 7), pt(7, 7), true},
		{"different points", pt(7, 7), pt(7, 7), pt(7, 8), pt(7, 8), false},
		{"the diagonals of the range", pt(-far, -far), pt(far, far), pt(-far, far), pt(far, -far), true},
		{"nearly parallel, crossing", pt(-far, -far), pt(far, far), pt(-far, 1-far), pt(far, far-1), true},
		{"nearly parallel, apart", pt(-far, -far), pt(far-1, far-1), pt(1-far, -far), pt(far, far-2), false},
		{"nearly touching", pt(-far, -far), pt(far, far-1), pt(-far, far), pt(0, 0), false},
		{"just touching", pt(-far, -far), pt(far, far), pt(-far, far), pt(0, 0), true},
	} {
		if got := geom.SegmentsIntersect(x.a, x.b, x.c, x.d); got != x.want {
			t.Errorf("%s: SegmentsIntersect(%v, %v, %v, %v) = %v", x.what, x.a, x.b, x.c, x.d, got)
		}
	}
}

// byEndpoints is the condition of P2.3 in terms of the package's own predicates.
func byEndpoints(a, b, c, d api.Point) bool {
	if geom.OnSegment(a, b, c) || geom.OnSegment(a, b, d) || geom.OnSegment(c, d, a) || geom.OnSegment(c, d, b) {
		return true
	}
	return geom.Orientation(a, b, c)*geom.Orientation(a, b, d) == -1 && geom.Orientation(c, d, a)*geom.Orientation(c, d, b) == -1
}

// P2.3: both conditions, and every order of the endpoints and of the segments.
func TestIntersectionConditions(t *testing.T) {
	r := rand.New(rand.NewSource(3))
	seen := map[bool]int{}
	for range 50000 {
		a, b, c, d := drawPoint(r), drawPoint(r), drawPoint(r), drawPoint(r)
		is := geom.SegmentsIntersect(a, b, c, d)
		seen[is]++
		if want := byEndpoints(a, b, c, d); is != want {
			t.Fatalf("SegmentsIntersect(%v, %v, %v, %v) = %v; by the endpoints %v", a, b, c, d, is, want)
		}
		if meet, parallel := linesMeetBetween(a, b, c, d); !parallel && is != meet {
			t.Fatalf("SegmentsIntersect(%v, %v, %v, %v) = %v; by the lines %v", a, b, c, d, is, meet)
		}
		for _, x := range [][4]api.Point{{b, a, c, d}, {a, b, d, c}, {b, a, d, c}, {c, d, a, b}, {d, c, a, b}, {c, d, b, a}, {d, c, b, a}} {
			if geom.SegmentsIntersect(x[0], x[1], x[2], x[3]) != is {
				t.Fatalf("SegmentsIntersect(%v, %v, %v, %v) = %v; not in the order %v", a, b, c, d, is, x)
			}
		}
	}
	if seen[true] < 1000 || seen[false] < 1000 {
		t.Errorf("%d pairs intersect and %d do not", seen[true], seen[false])
	}
}

// bounds returns the smallest and the largest coordinates of l.
func bounds(l []api.Point) (low, high api.Point) {
	var xs, ys []int
	for _, p := range l {
		xs, ys = append(xs, p.X), append(ys, p.Y)
	}
	return pt(slices.Min(xs), slices.Min(ys)), pt(slices.Max(xs), slices.Max(ys))
}

// P2.1 (B4): boxes of no point, one point and more.
func TestBoundingBoxExamples(t *testing.T) {
	for _, x := range []struct {
		l         []api.Point
		low, high api.Point
	}{
		{nil, pt(0, 0), pt(0, 0)},
		{[]api.Point{}, pt(0, 0), pt(0, 0)},
		{[]api.Point{pt(3, -4)}, pt(3, -4), pt(3, -4)},
		{[]api.Point{pt(-3, -4), pt(-3, -4)}, pt(-3, -4), pt(-3, -4)},
		{[]api.Point{pt(1, 8), pt(5, 2)}, pt(1, 2), pt(5, 8)},
		{[]api.Point{pt(5, 2), pt(1, 8)}, pt(1, 2), pt(5, 8)},
		{[]api.Point{pt(5, 5), pt(2, 7), pt(9, 6), pt(4, 1)}, pt(2, 1), pt(9, 7)},
		{[]api.Point{pt(-5, -5), pt(-2, -7)}, pt(-5, -7), pt(-2, -5)},
		{[]api.Point{pt(-far, far), pt(far, -far), pt(0, 0)}, pt(-far, -far), pt(far, far)},
		{[]api.Point{pt(far, far)}, pt(far, far), pt(far, far)},
	} {
		if low, high := geom.BoundingBox(x.l); low != x.low || high != x.high {
			t.Errorf("BoundingBox(%v) = %v, %v, want %v, %v", x.l, low, high, x.low, x.high)
		}
	}
}

// P2.4: a box contains its points, and each of its sides touches one.
func TestBoundingBox(t *testing.T) {
	r := rand.New(rand.NewSource(4))
	for range 5000 {
		l := drawPoints(r)
		low, high := geom.BoundingBox(l)
		for _, p := range l {
			if p.X < low.X || p.X > high.X || p.Y < low.Y || p.Y > high.Y {
				t.Fatalf("the box %v, %v of %v does not contain %v", low, high, l, p)
			}
		}
		for side, touches := range []func(p api.Point) bool{
			func(p api.Point) bool { return p.X == low.X },
			func(p api.Point) bool { return p.X == high.X },
			func(p api.Point) bool { return p.Y == low.Y },
			func(p api.Point) bool { return p.Y == high.Y },
		} {
			if !slices.ContainsFunc(l, touches) {
				t.Fatalf("side %d of the box %v, %v touches no point of %v", side, low, high, l)
			}
		}
	}
}

// P2.1 (B4): distances in the direction of either axis, of boxes that touch, that intersect and that contain each other.
func TestBoxDistanceExamples(t *testing.T) {
	box := []api.Point{pt(0, 0), pt(2, 1)}
	for _, x := range []struct {
		what string
		a, b []api.Point
		want int
	}{
		{"apart in both directions", box, []api.Point{pt(5, 5)}, 4},
		{"apart in both directions, more in X", box, []api.Point{pt(9, 5)}, 7},
		{"apart in both directions, more in Y below", box, []api.Point{pt(-3, -5)}, 5},
		{"apart in X to the left", box, []api.Point{pt(-3, 1), pt(-6, 0)}, 3},
		{"apart in X to the right", box, []api.Point{pt(4, -1), pt(5, 8)}, 2},
		{"apart in Y above", box, []api.Point{pt(1, 2), pt(0, 5)}, 1},
		{"apart in Y below", box, []api.Point{pt(-1, -2), pt(7, -9)}, 2},
		{"touching in a side", box, []api.Point{pt(2, 0), pt(4, 1)}, 0},
		{"touching in a corner", box, []api.Point{pt(2, 1), pt(4, 6)}, 0},
		{"overlapping", box, []api.Point{pt(1, -1), pt(4, 6)}, 0},
		{"within", []api.Point{pt(-9, 9), pt(9, -9)}, box, 0},
		{"crossing without a corner in the other", []api.Point{pt(-9, 1), pt(9, 0)}, []api.Point{pt(0, -9), pt(1, 9)}, 0},
		{"boxes that meet though the points are apart", []api.Point{pt(0, 0), pt(9, 9)}, []api.Point{pt(8, 1)}, 0},
		{"equal points", []api.Point{pt(3, 3)}, []api.Point{pt(3, 3)}, 0},
		{"the ends of the range", []api.Point{pt(-far, -far)}, []api.Point{pt(far, 0)}, 2 * far},
		{"the ends of the range in Y", []api.Point{pt(-1, far)}, []api.Point{pt(1, -far)}, 2 * far},
		{"no points", nil, nil, 0},
		{"no first points", nil, []api.Point{pt(5, 5)}, 0},
		{"no second points", []api.Point{pt(5, 5)}, []api.Point{}, 0},
	} {
		if got := geom.BoxDistance(x.a, x.b); got != x.want {
			t.Errorf("%s: BoxDistance(%v, %v) = %d, want %d", x.what, x.a, x.b, got, x.want)
		}
		if got := geom.BoxDistance(x.b, x.a); got != x.want {
			t.Errorf("%s: BoxDistance(%v, %v) = %d, want %d", x.what, x.b, x.a, got, x.want)
		}
	}
}

// gapByCases returns the distance of the intervals from lowA to highA and from lowB to highB.
func gapByCases(lowA, highA, lowB, highB int) int {
	switch {
	case highA < lowB:
		return lowB - highA
	case highB < lowA:
		return lowA - highB
	}
	return 0
}

// P2.1 (B4) and P2.4: the distance of boxes, which no two points of the sets undercut.
func TestBoxDistance(t *testing.T) {
	r := rand.New(rand.NewSource(5))
	for range 10000 {
		a, b := drawPoints(r), drawPoints(r)
		lowA, highA := bounds(a)
		lowB, highB := bounds(b)
		want := max(gapByCases(lowA.X, highA.X, lowB.X, highB.X), gapByCases(lowA.Y, highA.Y, lowB.Y, highB.Y))
		distance := geom.BoxDistance(a, b)
		if distance != want {
			t.Fatalf("BoxDistance(%v, %v) = %d, want %d", a, b, distance, want)
		}
		for _, p := range a {
			for _, q := range b {
				if max(p.X-q.X, q.X-p.X, p.Y-q.Y, q.Y-p.Y) < distance {
					t.Fatalf("BoxDistance(%v, %v) = %d; %v and %v are nearer", a, b, distance, p, q)
				}
			}
		}
	}
}

// P2.4: the boxes of intersecting segments intersect.
func TestBoxesOfIntersectingSegments(t *testing.T) {
	r := rand.New(rand.NewSource(6))
	intersecting := 0
	for range 20000 {
		a, b, c, d := drawPoint(r), drawPoint(r), drawPoint(r), drawPoint(r)
		if !geom.SegmentsIntersect(a, b, c, d) {
			continue
		}
		intersecting++
		lowA, highA := geom.BoundingBox([]api.Point{a, b})
		lowB, highB := geom.BoundingBox([]api.Point{c, d})
		if lowA.X > highB.X || lowB.X > highA.X || lowA.Y > highB.Y || lowB.Y > highA.Y {
			t.Fatalf("the boxes of %v-%v and %v-%v do not intersect", a, b, c, d)
		}
		if distance := geom.BoxDistance([]api.Point{a, b}, []api.Point{c, d}); distance != 0 {
			t.Fatalf("the boxes of %v-%v and %v-%v have the distance %d", a, b, c, d, distance)
		}
	}
	if intersecting < 1000 {
		t.Errorf("only %d pairs intersect", intersecting)
	}
}

// results collects what all functions return for one set of arguments.
type results struct {
	sum, difference, low, high api.Point
	side, distance             int
	on, cross                  bool
}

// callAll calls every function of the package.
func callAll(l [4]api.Point) results {
	var r results
	r.sum, r.difference = geom.Add(l[0], l[1]), geom.Sub(l[2], l[3])
	r.side, r.on = geom.Orientation(l[0], l[1], l[2]), geom.OnSegment(l[1], l[2], l[3])
	r.cross = geom.SegmentsIntersect(l[0], l[1], l[2], l[3])
	r.low, r.high = geom.BoundingBox(l[:])
	r.distance = geom.BoxDistance(l[:2], l[2:])
	return r
}

// P1: every function returns, for points in range and beyond.
func TestEveryCallReturns(t *testing.T) {
	l := grid(math.MinInt, -far-1, -far, 0, far, math.MaxInt)
	for i, a := range l {
		for _, b := range l {
			for j := range l {
				r := callAll([4]api.Point{a, b, l[(i+j)%len(l)], l[j]})
				if r.side < -1 || r.side > 1 {
					t.Fatalf("the orientation is %d", r.side)
				}
			}
		}
	}
}

// P3: the points that were passed in remain as they were.
func TestArgumentsStay(t *testing.T) {
	r := rand.New(rand.NewSource(7))
	for range 1000 {
		a, b := drawPoints(r), drawPoints(r)
		oldA, oldB := slices.Clone(a), slices.Clone(b)
		geom.BoundingBox(a)
		geom.BoxDistance(a, b)
		if !slices.Equal(a, oldA) || !slices.Equal(b, oldB) {
			t.Fatalf("%v and %v became %v and %v", oldA, oldB, a, b)
		}
	}
}

// P3: the results depend on the arguments only, not on earlier calls or on others at the same time.
func TestResultsDependOnArgumentsOnly(t *testing.T) {
	r := rand.New(rand.NewSource(8))
	l := make([][4]api.Point, 500)
	first := make([]results, len(l))
	for i := range l {
		l[i] = [4]api.Point{drawPoint(r), drawPoint(r), drawPoint(r), drawPoint(r)}
		first[i] = callAll(l[i])
	}
	var g sync.WaitGroup
	for range 4 {
		g.Go(func() {
			for i := len(l) - 1; i >= 0; i-- {
				if again := callAll(l[i]); again != first[i] {
					t.Errorf("%v: %v, then %v", l[i], first[i], again)
				}
			}
		})
	}
	g.Wait()
}
