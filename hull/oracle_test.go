package hull_test

import (
	"math/rand"
	"slices"
	"sync"

	"ambidexter/api"
	"ambidexter/polygon"
)

// far is the largest coordinate of a point that may be passed to the package.
const far = 439400000

// pt is a point.
func pt(x, y int) api.Point { return api.Point{X: x, Y: y} }

// poly is the polygon, or the list of points, with the coordinates x, y, x, y and so on.
func poly(coordinates ...int) api.Polygon {
	var p api.Polygon
	for c := range slices.Chunk(coordinates, 2) {
		p = append(p, pt(c[0], c[1]))
	}
	return p
}

// startingAt returns p with its list of corners beginning at corner k.
func startingAt(p api.Polygon, k int) api.Polygon { return slices.Concat(p[k:], p[:k]) }

// reversed returns the corners of p in reverse order.
func reversed(p api.Polygon) api.Polygon {
	p = slices.Clone(p)
	slices.Reverse(p)
	return p
}

// scaled returns p with all coordinates multiplied by n.
func scaled(p api.Polygon, n int) api.Polygon {
	p = slices.Clone(p)
	for i, c := range p {
		p[i] = pt(n*c.X, n*c.Y)
	}
	return p
}

// after returns the corner that follows corner i of p.
func after(p api.Polygon, i int) api.Point { return p[(i+1)%len(p)] }

// doubleArea returns twice the signed area of the triangle (a, b, c), which is positive if c is to the left of the line from a to b.
// No partial sum exceeds 2^63 for points in range.
func doubleArea(a, b, c api.Point) int {
	return a.X*b.Y - a.Y*b.X + b.X*c.Y - b.Y*c.X + c.X*a.Y - c.Y*a.X
}

// squareDistance returns the square of the distance of two points.
func squareDistance(a, b api.Point) int { return (b.X-a.X)*(b.X-a.X) + (b.Y-a.Y)*(b.Y-a.Y) }

// first returns the element of l with the smallest X coordinate and, among those, the smallest Y coordinate.
func first(l []api.Point) api.Point {
	least := l[0]
	for _, x := range l {
		if x.X < least.X || x.X == least.X && x.Y < least.Y {
			least = x
		}
	}
	return least
}

// wrap returns the hull of l, or nil if there is none. It walks around l: the next corner is the element that has no other one to the right of the way to it, and the farthest of these.
func wrap(l []api.Point) api.Polygon {
	if len(l) == 0 {
		return nil
	}
	start := first(l)
	hull := api.Polygon{start}
	for {
		here := hull[len(hull)-1]
		there := here
		for _, x := range l {
			side := doubleArea(here, there, x)
			if side < 0 || side == 0 && squareDistance(here, x) > squareDistance(here, there) {
				there = x
			}
		}
		if there == start {
			break
		}
		hull = append(hull, there)
	}
	if len(hull) < 3 {
		return nil
	}
	return hull
}

// isConvex reports whether p is strictly convex: whether it is the hull of its corners, beginning at any of them.
func isConvex(p api.Polygon) bool {
	hull := wrap(p)
	if len(hull) < 3 || len(hull) != len(p) {
		return false
	}
	for k := range hull {
		if slices.Equal(startingAt(hull, k), p) {
			return true
		}
	}
	return false
}

// size returns the absolute value of n.
func size(n int) int { return max(n, -n) }

// isInTriangle reports whether x is inside a triangle or on its boundary: whether the three triangles that x forms with the edges are not larger than the whole.
func isInTriangle(t api.Polygon, x api.Point) bool {
	around := size(doubleArea(t[0], t[1], x)) + size(doubleArea(t[1], t[2], x)) + size(doubleArea(t[2], t[0], x))
	return around == size(doubleArea(t[0], t[1], t[2]))
}

// isInConvex reports whether x is inside a strictly convex polygon or on its boundary.
func isInConvex(p api.Polygon, x api.Point) bool {
	for i, a := range p {
		if doubleArea(a, after(p, i), x) < 0 {
			return false
		}
	}
	return true
}

// isInSome reports whether x is inside one of the parts or on its boundary.
func isInSome(parts []api.Polygon, x api.Point) bool {
	return slices.ContainsFunc(parts, func(p api.Polygon) bool { return isInConvex(p, x) })
}

// around returns the list with element i first, then its successors and at last its predecessor.
func around(l api.Polygon, i int) (ear, successor api.Point, others api.Polygon, predecessor api.Point) {
	l = startingAt(l, i)
	return l[0], l[1], l[2 : len(l)-1], l[len(l)-1]
}

// clip is the chapter's decomposition of a polygon that is not strictly convex, in terms of the tests' own predicates.
func clip(p api.Polygon) []api.Polygon {
	var parts []api.Polygon
	left := slices.Clone(p)
	for len(left) > 3 {
		found := -1
		for i := range left {
			ear, successor, others, predecessor := around(left, i)
			t := api.Polygon{predecessor, ear, successor}
			blocks := func(x api.Point) bool { return isInTriangle(t, x) }
			if doubleArea(predecessor, ear, successor) > 0 && !slices.ContainsFunc(others, blocks) {
				parts = append(parts, t)
				found = i
				break
			}
		}
		if found < 0 {
			return nil
		}
		left = slices.Concat(left[:found], left[found+1:])
	}
	return append(parts, left)
}

// decompose is the chapter's decomposition.
func decompose(p api.Polygon) []api.Polygon {
	if isConvex(p) {
		return []api.Polygon{p}
	}
	return clip(p)
}

// grid returns all points with coordinates from low to high.
func grid(low, high int) []api.Point {
	var l []api.Point
	for x := low; x <= high; x++ {
		for y := low; y <= high; y++ {
			l = append(l, pt(x, y))
		}
	}
	return l
}

// eachList calls visit with all lists of n points of l, repetitions included.
func eachList(l []api.Point, n int, visit func(p api.Polygon)) {
	p := make(api.Polygon, n)
	var fill func(i int)
	fill = func(i int) {
		if i == n {
			visit(p)
			return
		}
		for _, x := range l {
			p[i] = x
			fill(i + 1)
		}
	}
	fill(0)
}

// arc returns n corners on a parabola, which form a strictly convex polygon.
func arc(n int) api.Polygon {
	var p api.Polygon
	for i := range n {
		p = append(p, pt(i, i*i))
	}
	return p
}

// convexShapes are strictly convex polygons.
func convexShapes() []api.Polygon {
	l := []api.Polygon{
		poly(0, 0, 4, 0, 4, 4),         // a triangle
		poly(0, 0, 4, 0, 4, 4, 0, 4),   // a square
		poly(0, -3, 3, 0, 0, 3, -3, 0), // a square on its corner
		poly(4, 0, 8, 0, 11, 1, 12, 4, 12, 8, 11, 11, 8, 12, 4, 12, 1, 11, 0, 8, 0, 4, 1, 1), // a dodecagon
		poly(-far, -far, far, -far, far, far, -far, far),                                     // all points in range
		poly(-far, 0, 0, -far, far, 0, 0, far),
		poly(far-1, far, far, far-1, far, far),
		poly(-far, -far, far, far-1, 1-far, 1-far), // as flat as possible
		poly(-far, -far, far-1, far-2, far, far-1),
	}
	for n := 3; n <= 12; n++ {
		l = append(l, arc(n))
	}
	return l
}

// dentedShapes are valid polygons that are not convex; many of their corners are on the boundaries of triangles that might be cut off.
func dentedShapes() []api.Polygon {
	return []api.Polygon{
		poly(0, 0, 6, 6, 0, 3, -6, 6),                                                    // an arrow
		poly(0, 0, 4, 0, 4, 4, 2, 2, 0, 4),                                               // a square with a notch to its middle
		poly(0, 0, 6, 0, 6, 2, 2, 2, 2, 6, 0, 6),                                         // an L
		poly(0, 0, 8, 0, 8, 4, 5, 4, 4, 1, 3, 4, 0, 4),                                   // a box with a notch
		poly(0, 0, 4, 2, 8, 0, 6, 4, 8, 8, 4, 6, 0, 8, 2, 4),                             // a star of four rays
		poly(0, 0, 2, 2, 4, 0, 6, 2, 8, 0, 8, 3, 6, 5, 4, 3, 2, 5, 0, 3),                 // a zigzag
		poly(4, 0, 8, 0, 8, 4, 12, 4, 12, 8, 8, 8, 8, 12, 4, 12, 4, 8, 0, 8, 0, 4, 4, 4), // a plus
		poly(0, 0, 10, 0, 10, 6, 8, 6, 8, 2, 6, 2, 6, 6, 4, 6, 4, 2, 2, 2, 2, 6, 0, 6),   // a comb
		poly(0, 0, 10, 0, 10, 10, 2, 10, 2, 4, 6, 4, 6, 6, 4, 6, 4, 8, 8, 8, 8, 2, 0, 2), // a spiral
		poly(-far, -far, far, -far, 0, 0, far, far, -far, far),
		poly(-far, -far, far, -far, far, far, 0, 1-far, -far, far),
		poly(-far, -far, far, far-1, 1-far, 1-far, -far, far), // a corner at the least possible distance from an edge
	}
}

// grow returns a valid polygon with n corners from draw, or with fewer if no more are found.
func grow(r *rand.Rand, n int, draw func() api.Point) api.Polygon {
	p := api.Polygon{draw(), draw(), draw()}
	for !polygon.Valid(p) {
		p = api.Polygon{draw(), draw(), draw()}
	}
	for range 100 * n {
		if len(p) == n {
			break
		}
		if larger := slices.Insert(slices.Clone(p), r.Intn(len(p)+1), draw()); polygon.Valid(larger) {
			p = larger
		}
	}
	return p
}

// drawFar returns a point in range.
func drawFar(r *rand.Rand) api.Point { return pt(r.Intn(2*far+1)-far, r.Intn(2*far+1)-far) }

// drawNear returns a point near the origin.
func drawNear(r *rand.Rand) api.Point { return pt(r.Intn(9)-4, r.Intn(9)-4) }

// drawEnd returns a point whose coordinates are at the ends of the range, next to them, or 0.
func drawEnd(r *rand.Rand) api.Point {
	ends := []int{-far, 1 - far, 0, far - 1, far}
	return pt(ends[r.Intn(len(ends))], ends[r.Intn(len(ends))])
}

// validPolygons are valid polygons with 3 to 12 corners, near the origin, in the whole range and at its ends.
var validPolygons = sync.OnceValue(func() []api.Polygon {
	r := rand.New(rand.NewSource(4))
	l := slices.Concat(convexShapes(), dentedShapes())
	for i := range 300 {
		l = append(l, grow(r, 3+i%10, func() api.Point { return drawNear(r) }))
	}
	for i := range 100 {
		l = append(l, grow(r, 3+i%10, func() api.Point { return drawFar(r) }), grow(r, 3+i%5, func() api.Point { return drawEnd(r) }))
	}
	return l
})
