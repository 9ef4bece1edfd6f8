package sweep_test

import (
	"math/big"
	"math/rand"
	"slices"
	"sync"

	"ambidexter/api"
)

// far is the largest coordinate of a point in range; it is a multiple of 16.
const far = 439400000

// pt is a point.
func pt(x, y int) api.Point { return api.Point{X: x, Y: y} }

// poly is the polygon whose corners have the coordinates x, y, x, y and so on.
func poly(coordinates ...int) api.Polygon {
	var p api.Polygon
	for c := range slices.Chunk(coordinates, 2) {
		p = append(p, pt(c[0], c[1]))
	}
	return p
}

// plus and minus return the sum and the difference of two points.
func plus(a, b api.Point) api.Point  { return pt(a.X+b.X, a.Y+b.Y) }
func minus(a, b api.Point) api.Point { return pt(a.X-b.X, a.Y-b.Y) }

// mapped returns the images of the corners of p.
func mapped(p api.Polygon, image func(c api.Point) api.Point) api.Polygon {
	p = slices.Clone(p)
	for i, c := range p {
		p[i] = image(c)
	}
	return p
}

// moved returns p translated by a vector.
func moved(p api.Polygon, by api.Point) api.Polygon {
	return mapped(p, func(c api.Point) api.Point { return plus(c, by) })
}

// scaled returns p with all coordinates multiplied by n.
func scaled(p api.Polygon, n int) api.Polygon {
	return mapped(p, func(c api.Point) api.Point { return pt(n*c.X, n*c.Y) })
}

// quarter returns c after a quarter turn about a pivot.
func quarter(pivot, c api.Point) api.Point {
	d := minus(c, pivot)
	return plus(pivot, pt(-d.Y, d.X))
}

// startingAt returns p with its list of corners beginning at corner k.
func startingAt(p api.Polygon, k int) api.Polygon { return slices.Concat(p[k:], p[:k]) }

// after returns the corner that follows corner i of p.
func after(p api.Polygon, i int) api.Point { return p[(i+1)%len(p)] }

// isInRange reports whether all points of l are in range.
func isInRange(l []api.Point) bool {
	return !slices.ContainsFunc(l, func(c api.Point) bool { return max(c.X, -c.X, c.Y, -c.Y) > far })
}

// doubleArea returns twice the signed area of the triangle (a, b, c), which is positive if c is to the left of the line from a to b.
// No partial sum exceeds 2^63 for points in range.
func doubleArea(a, b, c api.Point) int {
	return a.X*b.Y - a.Y*b.X + b.X*c.Y - b.Y*c.X + c.X*a.Y - c.Y*a.X
}

// cross and dot return the products of two vectors.
func cross(u, v api.Point) int { return u.X*v.Y - u.Y*v.X }
func dot(u, v api.Point) int   { return u.X*v.X + u.Y*v.Y }

// square returns the square of the length of a vector.
func square(u api.Point) int { return dot(u, u) }

// firstIndex returns the index of the point with the smallest X coordinate and, among those, the smallest Y coordinate.
func firstIndex(l []api.Point) int {
	least := 0
	for i, x := range l {
		if x.X < l[least].X || x.X == l[least].X && x.Y < l[least].Y {
			least = i
		}
	}
	return least
}

// wrap returns the hull of l, or nil if there is none. It walks around l: the next corner is the element that has no other one to the right of the way to it, and the farthest of these.
func wrap(l []api.Point) api.Polygon {
	if len(l) == 0 {
		return nil
	}
	start := l[firstIndex(l)]
	hull := api.Polygon{start}
	for {
		here := hull[len(hull)-1]
		there := here
		for _, x := range l {
			side := doubleArea(here, there, x)
			if side < 0 || side == 0 && square(minus(x, here)) > square(minus(there, here)) {
				there = x
			}
		}
		if there == start {
			break
		}
		hull = append(hull, there)
	}
	if len(hull) < 3 {
		return nil
	}
	return hull
}

// isConvex reports whether p is strictly convex: whether it is the hull of its corners, beginning at any of them.
func isConvex(p api.Polygon) bool {
	hull := wrap(p)
	return len(hull) > 0 && slices.Equal(hull, startingAt(p, firstIndex(p)))
}

// isInConvex reports whether x is inside a strictly convex polygon or on its boundary.
func isInConvex(p api.Polygon, x api.Point) bool {
	for i, a := range p {
		if doubleArea(a, after(p, i), x) < 0 {
			return false
		}
	}
	return true
}

// containsAll reports whether all points of l are inside a strictly convex polygon or on its boundary.
func containsAll(p api.Polygon, l []api.Point) bool {
	return !slices.ContainsFunc(l, func(x api.Point) bool { return !isInConvex(p, x) })
}

// isNotAbove reports whether a*b is at most c*d, for factors of any size.
func isNotAbove(a, b, c, d int) bool {
	product := func(x, y int) *big.Int { return new(big.Int).Mul(big.NewInt(int64(x)), big.NewInt(int64(y))) }
	return product(a, b).Cmp(product(c, d)) <= 0
}

// isWithin reports whether a vector of the square length that is the product of a and b is at most n long, for numbers of any size.
func isWithin(a, b, n int) bool { return n >= 0 && isNotAbove(a, b, n, n) }

// isArcIn reports whether p, which is convex and contains a and b, contains the whole arc from a to b about the pivot, which is less than a quarter turn.
// An arc leaves a polygon that contains its ends only by crossing an edge and coming back; it is farthest out where its radius is perpendicular to the edge.
func isArcIn(p api.Polygon, pivot, a, b api.Point) bool {
	u, v := minus(a, pivot), minus(b, pivot)
	if cross(u, v) < 0 {
		u, v = v, u
	}
	for i, from := range p {
		along := minus(after(p, i), from)
		outward := pt(along.Y, -along.X)
		isBetween := cross(u, outward) > 0 && cross(outward, v) > 0
		// The pivot's distance from the edge and the radius, both multiplied by the length of the edge.
		if isBetween && !isWithin(square(u), square(along), cross(along, minus(pivot, from))) {
			return false
		}
	}
	return true
}

// outer returns one coordinate of an outer point by F1, with the division of an absolute value.
func outer(pivot, a, b int) int {
	n := 9 * ((a - pivot) + (b - pivot))
	if n < 0 {
		return pivot - ((-n) >> 4)
	}
	return pivot + (n >> 4)
}

// outerPoint is F1.
func outerPoint(pivot, a, b api.Point) api.Point {
	return pt(outer(pivot.X, a.X, b.X), outer(pivot.Y, a.Y, b.Y))
}

// motion is what Region is called with.
type motion struct {
	pivot api.Point
	a, b  api.Polygon
}

// points returns the points that the region of a motion has to contain, for equal numbers of corners.
func (m motion) points() []api.Point {
	l := slices.Concat(m.a, m.b)
	for i, c := range m.a {
		l = append(l, outerPoint(m.pivot, c, m.b[i]))
	}
	return l
}

// region is F2; it is nil if there is no region.
func (m motion) region() api.Polygon {
	if len(m.a) != len(m.b) || len(m.a) > 12 {
		return nil
	}
	return wrap(m.points())
}

// isSpecified reports whether all points of a motion with equal numbers of corners are in range.
func (m motion) isSpecified() bool { return isInRange(append(m.points(), m.pivot)) }

// mapped returns the images of all points of a motion.
func (m motion) mapped(image func(c api.Point) api.Point) motion {
	return motion{pivot: image(m.pivot), a: mapped(m.a, image), b: mapped(m.b, image)}
}

// moved returns a motion translated by a vector.
func (m motion) moved(by api.Point) motion {
	return m.mapped(func(c api.Point) api.Point { return plus(c, by) })
}

// without returns a motion without the corners whose bits are set.
func (m motion) without(set int) motion {
	less := motion{pivot: m.pivot}
	for i, c := range m.a {
		if set>>i&1 == 0 {
			less.a, less.b = append(less.a, c), append(less.b, m.b[i])
		}
	}
	return less
}

// toTheEnds returns the translations by which the points of a motion come to the four ends of the range.
func (m motion) toTheEnds() []api.Point {
	l := append(m.points(), m.pivot)
	low, high := l[0], l[0]
	for _, x := range l {
		low, high = pt(min(low.X, x.X), min(low.Y, x.Y)), pt(max(high.X, x.X), max(high.Y, x.Y))
	}
	return []api.Point{
		pt(-far-low.X, -far-low.Y),
		pt(far-high.X, -far-low.Y),
		pt(far-high.X, far-high.Y),
		pt(-far-low.X, far-high.Y),
	}
}

// shapes are valid polygons of 3 to 12 corners, some of them convex.
func shapes() []api.Polygon {
	return []api.Polygon{
		poly(0, 0, 4, 0, 4, 4),                                                               // a triangle
		poly(-3, 1, 5, 0, 5, 1),                                                              // a flat one
		poly(0, 0, 4, 0, 4, 4, 0, 4),                                                         // a square
		poly(0, -3, 9, 0, 0, 3, -9, 0),                                                       // a rhombus
		poly(0, -2, 40, -2, 40, 2, 0, 2),                                                     // a link
		poly(0, 0, 6, 6, 0, 3, -6, 6),                                                        // an arrow
		poly(0, 0, 4, 0, 4, 4, 2, 2, 0, 4),                                                   // a square with a notch
		poly(0, 0, 6, 0, 6, 2, 2, 2, 2, 6, 0, 6),                                             // an L
		poly(0, 0, 8, 0, 8, 4, 5, 4, 4, 1, 3, 4, 0, 4),                                       // a box with a notch
		poly(0, 0, 4, 2, 8, 0, 6, 4, 8, 8, 4, 6, 0, 8, 2, 4),                                 // a star
		poly(0, 0, 1, 1, 2, 4, 3, 9, 4, 16, 5, 25, 6, 36, 7, 49, 8, 64),                      // a parabola
		poly(0, 0, 2, 2, 4, 0, 6, 2, 8, 0, 8, 3, 6, 5, 4, 3, 2, 5, 0, 3),                     // a zigzag
		poly(0, 0, 9, 1, 8, 3, 9, 5, 7, 6, 5, 9, 3, 8, 1, 9, 0, 7, 1, 5, -1, 3),              // a pebble
		poly(4, 0, 8, 0, 11, 1, 12, 4, 12, 8, 11, 11, 8, 12, 4, 12, 1, 11, 0, 8, 0, 4, 1, 1), // a dodecagon
		poly(4, 0, 8, 0, 8, 4, 12, 4, 12, 8, 8, 8, 8, 12, 4, 12, 4, 8, 0, 8, 0, 4, 4, 4),     // a plus
	}
}

// smallTurns are pairs (m, n) whose quotient m/n is the cotangent of half the angle of a small rotation. The cosine is at least 24/25 if and only if m is at least 7 n: 24/25 itself belongs to (7, 1), 63/65 to (8, 1).
func smallTurns() [][2]int {
	return [][2]int{{1, 0}, {7, 1}, {7, -1}, {8, 1}, {8, -1}, {9, 1}, {15, -2}, {22, 3}, {50, -7}, {71, 10}, {1000, 1}, {1000, -1}}
}

// swing returns the motion of a polygon by a small turn about the origin to which the polygon is relative, with coordinates that are multiples of 16.
// The corners are multiplied by m - ni and m + ni, as complex numbers, so that their lengths are equal and the corners of all rational rotations occur.
func swing(pivot api.Point, shape api.Polygon, turn [2]int) motion {
	times := func(m, n int) api.Polygon {
		return mapped(shape, func(c api.Point) api.Point {
			return plus(pivot, pt(16*(c.X*m-c.Y*n), 16*(c.X*n+c.Y*m)))
		})
	}
	return motion{pivot: pivot, a: times(turn[0], -turn[1]), b: times(turn[0], turn[1])}
}

// swingsAtTheEnds returns large swings, which are translated until their points reach the ends of the range.
func swingsAtTheEnds(shape api.Polygon, turn [2]int) []motion {
	size := 1
	for _, c := range shape {
		size = max(size, c.X, -c.X, c.Y, -c.Y)
	}
	var l []motion
	for _, by := range []int{2, 3, 4} {
		m := swing(pt(0, 0), scaled(shape, max(1, far/(16*by*turn[0]*size))), turn)
		for _, to := range m.toTheEnds() {
			// Coordinates stay multiples of 16.
			if there := m.moved(pt(to.X/16*16, to.Y/16*16)); there.isSpecified() {
				l = append(l, there)
			}
		}
	}
	return l
}

// swings are motions by small turns, of polygons with the pivot inside, on the boundary and outside, near the origin and at the ends of the range.
var swings = sync.OnceValue(func() []motion {
	r := rand.New(rand.NewSource(1))
	var l []motion
	for _, shape := range shapes() {
		k := r.Intn(len(shape))
		a, b := shape[k], after(shape, k)
		double := scaled(shape, 2)
		centers := []api.Point{double[k], plus(a, b), pt(8, 8), pt(8, 2), pt(5, 1), pt(r.Intn(20)-6, r.Intn(20)-6), pt(-70, 3), pt(1, 200)}
		for _, center := range centers {
			relative := moved(double, minus(pt(0, 0), center))
			for _, turn := range smallTurns() {
				near := pt(16*(r.Intn(201)-100), 16*(r.Intn(201)-100))
				l = append(l, swing(near, relative, turn))
				l = append(l, swing(near, scaled(relative, 1+r.Intn(20)), turn))
				l = append(l, swingsAtTheEnds(relative, turn)...)
			}
		}
	}
	return l
})

// drawNear, drawFar and drawEnd return coordinates near the origin, in the whole range, and at its ends, next to them or at 0.
func drawNear(r *rand.Rand) int { return r.Intn(81) - 40 }
func drawFar(r *rand.Rand) int  { return r.Intn(2*far+1) - far }
func drawEnd(r *rand.Rand) int {
	ends := []int{-far, 1 - far, 0, far - 1, far}
	return ends[r.Intn(len(ends))]
}

// drawMotion returns a motion with n corners, all points of which are in range.
func drawMotion(r *rand.Rand, n int, draw func(r *rand.Rand) int) motion {
	m := motion{pivot: pt(draw(r), draw(r))}
	for len(m.a) < n {
		a, b := pt(draw(r), draw(r)), pt(draw(r), draw(r))
		if isInRange([]api.Point{outerPoint(m.pivot, a, b)}) {
			m.a, m.b = append(m.a, a), append(m.b, b)
		}
	}
	return m
}

// drawLine returns a motion of n corners in which all points are on one line through the pivot, but for outer points whose coordinates were truncated.
func drawLine(r *rand.Rand, n int) motion {
	along, pivot := pt(r.Intn(9)-4, r.Intn(9)-4), pt(drawNear(r), drawNear(r))
	at := func() api.Point {
		k := 16 * (r.Intn(9) - 4) / (1 + r.Intn(2)*15)
		return plus(pivot, pt(k*along.X, k*along.Y))
	}
	m := motion{pivot: pivot}
	for range n {
		m.a, m.b = append(m.a, at()), append(m.b, at())
	}
	return m
}

// motions are motions of 0 to 12 corners of all kinds, all points of which are in range.
var motions = sync.OnceValue(func() []motion {
	r := rand.New(rand.NewSource(2))
	var l []motion
	for i := range 5200 {
		n := i % 13
		m := drawMotion(r, n, []func(r *rand.Rand) int{drawNear, drawFar, drawEnd}[i%3])
		l = append(l, m, drawLine(r, n))
		equal := motion{pivot: m.pivot, a: m.a, b: m.a}
		if equal.isSpecified() {
			l = append(l, equal)
		}
	}
	for i, m := range swings() {
		if i%5 == 0 {
			l = append(l, m)
		}
	}
	return l
})
