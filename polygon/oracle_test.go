package polygon_test

import (
	"math/big"
	"math/rand"
	"slices"
	"sync"

	"ambidexter/api"
)

// far is the largest coordinate of a valid point.
const far = 439400000

// pt is a point.
func pt(x, y int) api.Point { return api.Point{X: x, Y: y} }

// poly is the polygon whose corners have the coordinates x, y, x, y and so on.
func poly(coordinates ...int) api.Polygon {
	var p api.Polygon
	for c := range slices.Chunk(coordinates, 2) {
		p = append(p, pt(c[0], c[1]))
	}
	return p
}

// startingAt returns p with its list of corners beginning at corner k.
func startingAt(p api.Polygon, k int) api.Polygon { return slices.Concat(p[k:], p[:k]) }

// reversed returns the corners of p in reverse order.
func reversed(p api.Polygon) api.Polygon {
	p = slices.Clone(p)
	slices.Reverse(p)
	return p
}

// mapped returns the images of the corners of p.
func mapped(p api.Polygon, image func(c api.Point) api.Point) api.Polygon {
	p = slices.Clone(p)
	for i, c := range p {
		p[i] = image(c)
	}
	return p
}

// scaled returns p with all coordinates multiplied by n.
func scaled(p api.Polygon, n int) api.Polygon {
	return mapped(p, func(c api.Point) api.Point { return pt(n*c.X, n*c.Y) })
}

// moved returns p translated by (x, y).
func moved(p api.Polygon, x, y int) api.Polygon {
	return mapped(p, func(c api.Point) api.Point { return pt(c.X+x, c.Y+y) })
}

// after returns the corner that follows corner i of p.
func after(p api.Polygon, i int) api.Point { return p[(i+1)%len(p)] }

// grid returns all points with coordinates from low to high.
func grid(low, high int) []api.Point {
	var l []api.Point
	for x := low; x <= high; x++ {
		for y := low; y <= high; y++ {
			l = append(l, pt(x, y))
		}
	}
	return l
}

// eachList calls visit with all lists of n points of l, repetitions included.
func eachList(l []api.Point, n int, visit func(p api.Polygon)) {
	p := make(api.Polygon, n)
	var fill func(i int)
	fill = func(i int) {
		if i == n {
			visit(p)
			return
		}
		for _, x := range l {
			p[i] = x
			fill(i + 1)
		}
	}
	fill(0)
}

// cross returns the cross product of the vectors from a to b and from c to d.
func cross(a, b, c, d api.Point) int { return (b.X-a.X)*(d.Y-c.Y) - (b.Y-a.Y)*(d.X-c.X) }

// dot returns the scalar product of the vectors from a to b and from c to d.
func dot(a, b, c, d api.Point) int { return (b.X-a.X)*(d.X-c.X) + (b.Y-a.Y)*(d.Y-c.Y) }

// fraction returns p / q.
func fraction(p, q int) *big.Rat { return big.NewRat(int64(p), int64(q)) }

// overlap returns the smallest and the largest t from 0 to 1 for which a + t(b - a) lies on the segment from c to d, if there is one.
// It clips the segment from a to b by the line through c and d and by the perpendiculars through c and d.
func overlap(a, b, c, d api.Point) (low, high *big.Rat, ok bool) {
	low, high = fraction(0, 1), fraction(1, 1)
	aside, turn := cross(c, d, c, a), cross(c, d, a, b)
	along, pace := dot(c, d, c, a), dot(c, d, a, b)
	// Each row holds p and q of a condition p + q t >= 0.
	for _, row := range [][2]int{{aside, turn}, {-aside, -turn}, {along, pace}, {dot(c, d, c, d) - along, -pace}} {
		p, q := row[0], row[1]
		switch {
		case q == 0 && p < 0:
			return nil, nil, false
		case q > 0:
			if t := fraction(-p, q); t.Cmp(low) > 0 {
				low = t
			}
		case q < 0:
			if t := fraction(p, -q); t.Cmp(high) < 0 {
				high = t
			}
		}
	}
	return low, high, low.Cmp(high) <= 0
}

// meetOnlyAt reports whether a + t(b - a) is the only common point of the segments from a to b and from c to d.
func meetOnlyAt(t int, a, b, c, d api.Point) bool {
	low, high, ok := overlap(a, b, c, d)
	return ok && low.Cmp(fraction(t, 1)) == 0 && high.Cmp(low) == 0
}

// isSimple reports whether consecutive edges of p have their common corner in common, and no other points of edges coincide.
func isSimple(p api.Polygon) bool {
	for i, a := range p {
		b := after(p, i)
		for j := range i {
			c, d := p[j], after(p, j)
			allowed := false
			switch {
			case i == j+1:
				allowed = meetOnlyAt(0, a, b, c, d)
			case j == 0 && i == len(p)-1:
				allowed = meetOnlyAt(1, a, b, c, d)
			default:
				_, _, meet := overlap(a, b, c, d)
				allowed = !meet
			}
			if !allowed {
				return false
			}
		}
	}
	return true
}

// isStraightSomewhere reports whether p has three consecutive collinear corners.
func isStraightSomewhere(p api.Polygon) bool {
	for i, a := range p {
		b, c := after(p, i), after(p, i+1)
		if cross(a, b, b, c) == 0 {
			return true
		}
	}
	return false
}

// isCounterclockwise reports whether a simple polygon turns left at the lowest of its leftmost corners.
func isCounterclockwise(p api.Polygon) bool {
	first := 0
	for i, c := range p {
		if c.X < p[first].X || c.X == p[first].X && c.Y < p[first].Y {
			first = i
		}
	}
	before := p[(first+len(p)-1)%len(p)]
	return cross(before, p[first], p[first], after(p, first)) > 0
}

// isValid is the condition for valid polygons in terms of the tests' own predicates, for points in range.
func isValid(p api.Polygon) bool {
	return len(p) >= 3 && len(p) <= 12 && !isStraightSomewhere(p) && isSimple(p) && isCounterclockwise(p)
}

// sign returns the sign of n.
func sign(n int) int {
	switch {
	case n > 0:
		return 1
	case n < 0:
		return -1
	}
	return 0
}

// areOpposite reports whether p and q lie strictly on opposite sides of the line through a and b.
func areOpposite(a, b, p, q api.Point) bool {
	return sign(cross(a, b, a, p))*sign(cross(a, b, a, q)) < 0
}

// whereIs is the position of x relative to a valid polygon p.
// It counts the edges that cross a ray on which, as far as the range extends, no point but x has integer coordinates.
func whereIs(p api.Polygon, x api.Point) int {
	end := pt(x.X+2*far+1, x.Y+1)
	where := -1
	for i, a := range p {
		b := after(p, i)
		if cross(a, b, a, x) == 0 && dot(a, x, b, x) <= 0 {
			return 0
		}
		if areOpposite(x, end, a, b) && areOpposite(a, b, x, end) {
			where = -where
		}
	}
	return where
}

// shapes are valid polygons in which many corners are level with others.
func shapes() []api.Polygon {
	return []api.Polygon{
		poly(0, 0, 4, 0, 4, 4),                                                           // a triangle
		poly(0, 0, 4, 0, 4, 4, 0, 4),                                                     // a square
		poly(0, -3, 3, 0, 0, 3, -3, 0),                                                   // a square on its corner
		poly(0, 0, 6, 0, 6, 2, 2, 2, 2, 6, 0, 6),                                         // an L
		poly(0, 0, 6, 6, 0, 3, -6, 6),                                                    // an arrow
		poly(0, 0, 8, 0, 8, 4, 5, 4, 4, 1, 3, 4, 0, 4),                                   // a box with a notch
		poly(0, 0, 2, 2, 4, 0, 6, 2, 8, 0, 8, 3, 6, 5, 4, 3, 2, 5, 0, 3),                 // a zigzag
		poly(0, 0, 10, 0, 10, 6, 8, 6, 8, 2, 6, 2, 6, 6, 4, 6, 4, 2, 2, 2, 2, 6, 0, 6),   // a comb
		poly(0, 0, 10, 0, 10, 10, 2, 10, 2, 4, 6, 4, 6, 6, 4, 6, 4, 8, 8, 8, 8, 2, 0, 2), // a spiral
	}
}

// grow returns a valid polygon with n corners from draw, or with fewer if no more are found.
func grow(r *rand.Rand, n int, draw func() api.Point) api.Polygon {
	p := api.Polygon{draw(), draw(), draw()}
	for !isValid(p) {
		p = api.Polygon{draw(), draw(), draw()}
	}
	for range 100 * n {
		if len(p) == n {
			break
		}
		if larger := slices.Insert(slices.Clone(p), r.Intn(len(p)+1), draw()); isValid(larger) {
			p = larger
		}
	}
	return p
}

// drawFar returns a valid point.
func drawFar(r *rand.Rand) api.Point { return pt(r.Intn(2*far+1)-far, r.Intn(2*far+1)-far) }

// drawNear returns a point near the origin.
func drawNear(r *rand.Rand) api.Point { return pt(r.Intn(9)-4, r.Intn(9)-4) }

// nearPolygons are valid polygons near the origin, with 3 to 12 corners.
var nearPolygons = sync.OnceValue(func() []api.Polygon {
	r := rand.New(rand.NewSource(1))
	l := shapes()
	for i := range 120 {
		l = append(l, grow(r, 3+i%10, func() api.Point { return drawNear(r) }))
	}
	return l
})

// farPolygons are valid polygons with 3 to 12 corners anywhere in the range, and some that touch its ends.
var farPolygons = sync.OnceValue(func() []api.Polygon {
	r := rand.New(rand.NewSource(2))
	l := []api.Polygon{
		poly(-far, -far, far, -far, far, far, -far, far),
		poly(-far, -far, far, far-1, far, far),
		poly(-far, -far, far, -far, 0, 0, far, far, -far, far),
		poly(-far, -far, far, -far, far, far, 0, 1-far, -far, far),
	}
	for i := range 60 {
		l = append(l, grow(r, 3+i%10, func() api.Point { return drawFar(r) }))
	}
	return l
})
