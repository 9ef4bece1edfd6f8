package intersect_test

import (
	"math/big"
	"math/rand"
	"slices"
	"sync"

	"ambidexter/api"
	"ambidexter/hull"
	"ambidexter/polygon"
)

// far is the largest coordinate of a corner of a valid polygon.
const far = 439400000

// pt is a point.
func pt(x, y int) api.Point { return api.Point{X: x, Y: y} }

// poly is the polygon whose corners have the coordinates x, y, x, y and so on.
func poly(coordinates ...int) api.Polygon {
	var p api.Polygon
	for c := range slices.Chunk(coordinates, 2) {
		p = append(p, pt(c[0], c[1]))
	}
	return p
}

// startingAt returns p with its list of corners beginning at corner k.
func startingAt(p api.Polygon, k int) api.Polygon { return slices.Concat(p[k:], p[:k]) }

// mapped returns the images of the corners of p.
func mapped(p api.Polygon, image func(c api.Point) api.Point) api.Polygon {
	p = slices.Clone(p)
	for i, c := range p {
		p[i] = image(c)
	}
	return p
}

// moved returns p translated by a vector.
func moved(p api.Polygon, by api.Point) api.Polygon {
	return mapped(p, func(c api.Point) api.Point { return pt(c.X+by.X, c.Y+by.Y) })
}

// scaled returns p with all coordinates multiplied by n.
func scaled(p api.Polygon, n int) api.Polygon {
	return mapped(p, func(c api.Point) api.Point { return pt(n*c.X, n*c.Y) })
}

// after returns the corner that follows corner i of p.
func after(p api.Polygon, i int) api.Point { return p[(i+1)%len(p)] }

// isInRange reports whether all corners of p are valid points.
func isInRange(p api.Polygon) bool {
	return !slices.ContainsFunc(p, func(c api.Point) bool { return max(c.X, -c.X, c.Y, -c.Y) > far })
}

// doubleArea returns twice the signed area of the triangle (a, b, c), which is positive if c is to the left of the line from a to b.
// No partial sum exceeds 2^63 for points in range.
func doubleArea(a, b, c api.Point) int {
	return a.X*b.Y - a.Y*b.X + b.X*c.Y - b.Y*c.X + c.X*a.Y - c.Y*a.X
}

// isConvex reports whether no corner of p is to the right of one of its edges.
func isConvex(p api.Polygon) bool {
	for i, c := range p {
		if slices.ContainsFunc(p, func(x api.Point) bool { return doubleArea(c, after(p, i), x) < 0 }) {
			return false
		}
	}
	return true
}

// isReached reports whether a turn to the left by less than half a turn, or none at all, leads from the direction of v to the direction of w.
func isReached(v, w api.Point) bool {
	cross, dot := v.X*w.Y-v.Y*w.X, v.X*w.X+v.Y*w.Y
	return cross > 0 || cross == 0 && dot > 0
}

// hullsMeet reports whether the convex hulls of two sets of points have a common point.
// They do if the origin is in the hull of the differences of their points, which it is not if all differences are reached from one of them.
func hullsMeet(p, q []api.Point) bool {
	var l []api.Point
	for _, x := range p {
		for _, y := range q {
			l = append(l, pt(x.X-y.X, x.Y-y.Y))
		}
	}
	return !slices.ContainsFunc(l, func(v api.Point) bool {
		return !slices.ContainsFunc(l, func(w api.Point) bool { return !isReached(v, w) })
	})
}

// isIn reports whether x belongs to a polygon with the given convex parts.
func isIn(parts []api.Polygon, x api.Point) bool {
	return slices.ContainsFunc(parts, func(p api.Polygon) bool { return hullsMeet([]api.Point{x}, p) })
}

// shape is a valid polygon with its convex parts.
type shape struct {
	corners api.Polygon
	parts   []api.Polygon
}

// shapeOf returns a polygon with its convex parts.
func shapeOf(p api.Polygon) shape { return shape{corners: p, parts: hull.Decompose(p)} }

// haveCommonPoint reports whether two polygons have a common point: whether two of their parts have one.
func haveCommonPoint(a, b shape) bool {
	return slices.ContainsFunc(a.parts, func(p api.Polygon) bool {
		return slices.ContainsFunc(b.parts, func(q api.Polygon) bool { return hullsMeet(p, q) })
	})
}

// edgeOf returns the ends of edge i of p, or nil if there is no such edge.
func edgeOf(p api.Polygon, i int) []api.Point {
	if i < 0 || i >= len(p) {
		return nil
	}
	return []api.Point{p[i], after(p, i)}
}

// isSeparating is the chapter's condition for separating edges.
func isSeparating(a, b shape, l api.Separator) bool {
	if l.Of == 1 {
		return isSeparating(b, a, api.Separator{Of: 0, Edge: l.Edge})
	}
	ends := edgeOf(a.corners, l.Edge)
	if l.Of != 0 || ends == nil {
		return false
	}
	return !slices.ContainsFunc(b.corners, func(c api.Point) bool { return doubleArea(ends[0], ends[1], c) >= 0 })
}

// isContact is the chapter's condition for witnesses.
func isContact(a, b shape, t api.Contact) bool {
	e, f := edgeOf(a.corners, t.I), edgeOf(b.corners, t.J)
	switch t.Kind {
	case 1:
		return e != nil && f != nil && hullsMeet(e, f)
	case 2:
		return e != nil && t.J == 0 && isIn(b.parts, e[0])
	case 3:
		return f != nil && t.I == 0 && isIn(a.parts, f[0])
	}
	return false
}

// separators returns the Separators with one more value than two polygons need at each end of each field, in the order in which they are tried.
func separators(a, b api.Polygon) []api.Separator {
	var l []api.Separator
	for of := -1; of <= 2; of++ {
		for edge := -1; edge <= max(len(a), len(b)); edge++ {
			l = append(l, api.Separator{Of: of, Edge: edge})
		}
	}
	return l
}

// contacts returns the Contacts with one more value than two polygons need at each end of each field, in the order in which they are tried.
func contacts(a, b api.Polygon) []api.Contact {
	var l []api.Contact
	for kind := range 5 {
		for i := -1; i <= max(len(a), len(b)); i++ {
			for j := -1; j <= max(len(a), len(b)); j++ {
				l = append(l, api.Contact{Kind: kind, I: i, J: j})
			}
		}
	}
	return l
}

// exactPoint is a point whose coordinates need not be integers.
type exactPoint struct{ x, y *big.Rat }

// exactly returns x as an exact point.
func exactly(x api.Point) exactPoint {
	return exactPoint{x: big.NewRat(int64(x.X), 1), y: big.NewRat(int64(x.Y), 1)}
}

// side returns the sign of the area of the triangle (a, b, x).
func side(a, b api.Point, x exactPoint) int {
	from := exactly(a)
	up := new(big.Rat).Sub(x.y, from.y)
	along := new(big.Rat).Sub(x.x, from.x)
	up.Mul(up, big.NewRat(int64(b.X-a.X), 1))
	along.Mul(along, big.NewRat(int64(b.Y-a.Y), 1))
	return up.Cmp(along)
}

// holds reports whether x belongs to p, for exact points.
func (p shape) holds(x exactPoint) bool {
	return slices.ContainsFunc(p.parts, func(part api.Polygon) bool {
		for i, c := range part {
			if side(c, after(part, i), x) < 0 {
				return false
			}
		}
		return true
	})
}

// commonPoint returns a point that two intersecting segments have in common, as seen from the first one: where the other line crosses it, or the end of one segment on the other one.
func commonPoint(e, f []api.Point) exactPoint {
	before, behind := doubleArea(f[0], f[1], e[0]), doubleArea(f[0], f[1], e[1])
	if before == behind {
		for _, x := range slices.Concat(e, f) {
			if hullsMeet([]api.Point{x}, e) && hullsMeet([]api.Point{x}, f) {
				return exactly(x)
			}
		}
	}
	from, part := exactly(e[0]), new(big.Rat).Sub(big.NewRat(int64(before), 1), big.NewRat(int64(behind), 1))
	part.Quo(big.NewRat(int64(before), 1), part)
	dx, dy := big.NewRat(int64(e[1].X-e[0].X), 1), big.NewRat(int64(e[1].Y-e[0].Y), 1)
	return exactPoint{x: dx.Add(dx.Mul(dx, part), from.x), y: dy.Add(dy.Mul(dy, part), from.y)}
}

// grid returns all points with coordinates from 0 to high.
func grid(high int) []api.Point {
	var l []api.Point
	for x := range high + 1 {
		for y := range high + 1 {
			l = append(l, pt(x, y))
		}
	}
	return l
}

// gridPolygons returns all valid polygons with n corners in l, which is sorted, each once with its least corner first.
func gridPolygons(l []api.Point, n int) []shape {
	var shapes []shape
	for i, x := range l {
		eachList(l[i+1:], n-1, func(rest []api.Point) {
			if p := slices.Concat(api.Polygon{x}, rest); polygon.Valid(p) {
				shapes = append(shapes, shapeOf(p))
			}
		})
	}
	return shapes
}

// eachList calls visit with all lists of n points of l, repetitions included.
func eachList(l []api.Point, n int, visit func(p []api.Point)) {
	p := make([]api.Point, n)
	var fill func(i int)
	fill = func(i int) {
		if i == n {
			visit(p)
			return
		}
		for _, x := range l {
			p[i] = x
			fill(i + 1)
		}
	}
	fill(0)
}

// dodecagon is a convex polygon with as many corners as a polygon may have.
func dodecagon() api.Polygon {
	return poly(4, 0, 8, 0, 11, 1, 12, 4, 12, 8, 11, 11, 8, 12, 4, 12, 1, 11, 0, 8, 0, 4, 1, 1)
}

// comb is a polygon with as many corners as a polygon may have, and two notches.
func comb() api.Polygon {
	return poly(0, 0, 10, 0, 10, 6, 8, 6, 8, 2, 6, 2, 6, 6, 4, 6, 4, 2, 2, 2, 2, 6, 0, 6)
}

// shapes are valid polygons of many forms.
func shapes() []api.Polygon {
	return []api.Polygon{
		poly(0, 0, 4, 0, 4, 4),
		poly(0, 0, 4, 0, 4, 4, 0, 4),
		poly(0, -3, 3, 0, 0, 3, -3, 0),
		dodecagon(),
		poly(0, 0, 6, 6, 0, 3, -6, 6),                        // an arrow
		poly(0, 0, 6, 0, 6, 2, 2, 2, 2, 6, 0, 6),             // an L
		poly(0, 0, 8, 0, 8, 4, 5, 4, 4, 1, 3, 4, 0, 4),       // a box with a notch
		poly(0, 0, 4, 2, 8, 0, 6, 4, 8, 8, 4, 6, 0, 8, 2, 4), // a star of four rays
		poly(4, 0, 8, 0, 8, 4, 12, 4, 12, 8, 8, 8, 8, 12, 4, 12, 4, 8, 0, 8, 0, 4, 4, 4), // a plus
		comb(),
		poly(0, 0, 10, 0, 10, 10, 2, 10, 2, 4, 6, 4, 6, 6, 4, 6, 4, 8, 8, 8, 8, 2, 0, 2), // a spiral
	}
}

// largeShapes are valid polygons that reach the ends of the range.
func largeShapes() []api.Polygon {
	return []api.Polygon{
		poly(-far, -far, far, -far, far, far, -far, far),
		poly(-far, 0, 0, -far, far, 0, 0, far),
		poly(-far, -far, far, far-1, 1-far, 1-far), // as flat as possible
		poly(-far, -far, far-1, far-2, far, far-1),
		poly(-far, -far, far, -far, 0, 0, far, far, -far, far),
		poly(-far, -far, far, -far, far, far, 0, 1-far, -far, far),
		poly(far-1, far, far, far-1, far, far),
		poly(-far, -far, 1-far, -far, -far, 1-far),
	}
}

// grow returns a valid polygon with n corners from draw, or with fewer if no more are found.
func grow(r *rand.Rand, n int, draw func() api.Point) api.Polygon {
	p := api.Polygon{draw(), draw(), draw()}
	for !polygon.Valid(p) {
		p = api.Polygon{draw(), draw(), draw()}
	}
	for range 100 * n {
		if len(p) == n {
			break
		}
		if larger := slices.Insert(slices.Clone(p), r.Intn(len(p)+1), draw()); polygon.Valid(larger) {
			p = larger
		}
	}
	return p
}

// drawUpTo returns a point with coordinates from -size to size.
func drawUpTo(r *rand.Rand, size int) api.Point {
	return pt(r.Intn(2*size+1)-size, r.Intn(2*size+1)-size)
}

// drawEnd returns a point whose coordinates are at the ends of the range, next to them, or 0.
func drawEnd(r *rand.Rand) api.Point {
	ends := []int{-far, 1 - far, 0, far - 1, far}
	return pt(ends[r.Intn(len(ends))], ends[r.Intn(len(ends))])
}

// convexFrom returns a convex polygon with at most 12 corners from draw.
func convexFrom(draw func() api.Point) api.Polygon {
	for {
		var l []api.Point
		for range 40 {
			l = append(l, draw())
			if p, _ := hull.Of(l); len(p) > api.MaxCorners {
				l = l[:len(l)-1]
			}
		}
		if p, ok := hull.Of(l); ok {
			return p
		}
	}
}

// classes are lists of valid polygons with 3 to 12 corners: near the origin, of a third of the size of the range, and at its ends.
// At least half of those of the first two classes are convex.
var classes = sync.OnceValue(func() [3][]shape {
	r := rand.New(rand.NewSource(12))
	near := func() api.Point { return drawUpTo(r, 5) }
	wide := func() api.Point { return drawUpTo(r, 12) }
	third := func() api.Point { return drawUpTo(r, far/3) }
	end := func() api.Point { return drawEnd(r) }
	l := [3][]api.Polygon{shapes(), nil, largeShapes()}
	for i := range 80 {
		n := 3 + i%10
		l[0] = append(l[0], grow(r, n, near), convexFrom(wide))
		l[1] = append(l[1], grow(r, n, third), convexFrom(third))
		l[2] = append(l[2], grow(r, min(n, 7), end))
	}
	var out [3][]shape
	for i, class := range l {
		for _, p := range class {
			out[i] = append(out[i], shapeOf(startingAt(p, r.Intn(len(p)))))
		}
	}
	return out
})

// pair is two polygons.
type pair struct{ a, b shape }

// between returns the vector from p to q.
func between(p, q api.Point) api.Point { return pt(q.X-p.X, q.Y-p.Y) }

// middle returns the middle of two points, up to one half in each coordinate.
func middle(p, q api.Point) api.Point { return pt((p.X+q.X)/2, (p.Y+q.Y)/2) }

// farthest returns the corner of p that is farthest in a direction.
func farthest(p api.Polygon, in api.Point) api.Point {
	return slices.MaxFunc(p, func(c, d api.Point) int { return (c.X-d.X)*in.X + (c.Y-d.Y)*in.Y })
}

// touching returns a translation of b of which some corner is a corner of a or in the middle of one of its edges.
func touching(r *rand.Rand, a, b api.Polygon) api.Polygon {
	i := r.Intn(len(a))
	target := []api.Point{a[i], a[i], middle(a[i], after(a, i))}[r.Intn(3)]
	return moved(b, between(b[r.Intn(len(b))], target))
}

// beside returns a translation of b that is on one side of a and shares a corner with it.
func beside(r *rand.Rand, a, b api.Polygon) api.Polygon {
	in := drawUpTo(r, 3)
	return moved(b, between(farthest(b, pt(-in.X, -in.Y)), farthest(a, in)))
}

// reduced returns a polygon of the form of b but much smaller, of which one corner is between two corners of a.
func reduced(r *rand.Rand, a, b api.Polygon) api.Polygon {
	b = mapped(b, func(c api.Point) api.Point { return pt(c.X/16, c.Y/16) })
	return moved(b, between(b[0], middle(a[r.Intn(len(a))], a[r.Intn(len(a))])))
}

// drawPair returns two polygons of one class, of which the second one is often moved so that both touch or almost touch, or reduced so that it may be inside the first one.
func drawPair(r *rand.Rand, class []shape) pair {
	a, b := class[r.Intn(len(class))], class[r.Intn(len(class))]
	if large := scaled(a.corners, 16); isInRange(large) {
		a = shapeOf(large)
		if r.Intn(4) > 0 {
			b = shapeOf(scaled(b.corners, 16))
		}
	}
	place := []func(r *rand.Rand, a, b api.Polygon) api.Polygon{touching, beside, beside, reduced}[r.Intn(4)]
	c := place(r, a.corners, b.corners)
	if r.Intn(3) > 0 {
		c = moved(c, drawUpTo(r, 1))
	}
	if polygon.Valid(c) {
		b = shapeOf(c)
	}
	if r.Intn(2) == 0 {
		a, b = b, a
	}
	return pair{a: a, b: b}
}

// pairs are pairs of polygons of all classes, some of them moved to the ends of the range.
var pairs = sync.OnceValue(func() []pair {
	r := rand.New(rand.NewSource(13))
	var l []pair
	for range 1000 {
		for _, class := range classes() {
			l = append(l, drawPair(r, class))
		}
	}
	for range 500 {
		x := drawPair(r, classes()[0])
		for _, by := range toTheEnds(x.a.corners, x.b.corners) {
			if r.Intn(4) == 0 {
				l = append(l, pair{a: shapeOf(moved(x.a.corners, by)), b: shapeOf(moved(x.b.corners, by))})
			}
		}
	}
	return l
})

// toTheEnds returns the four vectors by which two polygons together are moved into a corner of the range.
func toTheEnds(a, b api.Polygon) []api.Point {
	all := slices.Concat(a, b)
	low, high := all[0], all[0]
	for _, c := range all {
		low, high = pt(min(low.X, c.X), min(low.Y, c.Y)), pt(max(high.X, c.X), max(high.Y, c.Y))
	}
	return []api.Point{
		pt(far-high.X, far-high.Y), pt(far-high.X, -far-low.Y),
		pt(-far-low.X, far-high.Y), pt(-far-low.X, -far-low.Y),
	}
}

// convexPairs are those pairs of which both polygons are convex.
func convexPairs() []pair {
	return slices.DeleteFunc(slices.Clone(pairs()), func(x pair) bool {
		return !isConvex(x.a.corners) || !isConvex(x.b.corners)
	})
}
