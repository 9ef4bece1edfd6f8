package jointmove_test

import (
	"fmt"
	"math/rand"
	"slices"
	"strings"
	"testing"

	"ambidexter/api"
	"ambidexter/arm"
	"ambidexter/cell"
	"ambidexter/collision"
	"ambidexter/hull"
	"ambidexter/intersect"
	"ambidexter/polygon"
	"ambidexter/rotation"
)

// unit is the number of fixed-point steps per unit of length, far the largest coordinate in range.
const (
	unit = 4394000
	far  = 100 * unit
)

// pt is a point, and units a point with whole units as coordinates.
func pt(x, y int) api.Point    { return api.Point{X: x, Y: y} }
func units(x, y int) api.Point { return pt(unit*x, unit*y) }

// plus and minus return the sum and the difference of two points.
func plus(a, b api.Point) api.Point  { return pt(a.X+b.X, a.Y+b.Y) }
func minus(a, b api.Point) api.Point { return pt(a.X-b.X, a.Y-b.Y) }

// poly is the polygon whose corners have the coordinates x, y, x, y and so on, and inUnits the one with these coordinates in units.
func poly(coordinates ...int) api.Polygon { return scaled(1, coordinates...) }

func inUnits(coordinates ...int) api.Polygon { return scaled(unit, coordinates...) }

// scaled is the polygon whose corners have the coordinates x, y, x, y and so on, multiplied by n.
func scaled(n int, coordinates ...int) api.Polygon {
	var p api.Polygon
	for c := range slices.Chunk(coordinates, 2) {
		p = append(p, pt(n*c[0], n*c[1]))
	}
	return p
}

// mapped returns the images of the corners of p.
func mapped(p api.Polygon, image func(x api.Point) api.Point) api.Polygon {
	p = slices.Clone(p)
	for i, x := range p {
		p[i] = image(x)
	}
	return p
}

// moved returns p translated by a vector.
func moved(p api.Polygon, by api.Point) api.Polygon {
	return mapped(p, func(x api.Point) api.Point { return plus(x, by) })
}

// label names a body: L12 is link 2 of arm 1, C0 what arm 0 carries, R3 part 3 at its place, F4 fixture 4.
func label(b api.Body) string {
	switch b.Kind {
	case 1:
		return fmt.Sprintf("L%d%d", b.I, b.J)
	case 2, 3, 4:
		return fmt.Sprintf("%c%d", "CRF"[b.Kind-2], b.I)
	}
	return "?"
}

// isMoved reports whether a body moves with m.
func isMoved(b api.Body, m api.Move) bool {
	if b.Kind != 1 && b.Kind != 2 || b.I != m.Arm {
		return false
	}
	return b.Kind == 2 || slices.Contains([]int{0, 1, 2}[m.Joint:], b.J)
}

// labelOf names a pair of a move, with a star behind the body that moves.
func labelOf(p api.BodyPair, m api.Move) string {
	star := func(b api.Body) string {
		if isMoved(b, m) {
			return label(b) + "*"
		}
		return label(b)
	}
	return star(p.A) + "-" + star(p.B)
}

// labels names all pairs of a move: each line lists the second bodies of the pairs with the same first one.
func labels(l []api.BodyPair, m api.Move) string {
	text, last := "", ""
	for _, p := range l {
		first, second, _ := strings.Cut(labelOf(p, m), "-")
		if first != last {
			text += "\n" + first + ":"
			last = first
		}
		text += " " + second
	}
	return strings.TrimPrefix(text, "\n") + "\n"
}

// nextOf is O1.
func nextOf(c api.Cell, w api.State, m api.Move) (api.State, bool) {
	if m.Arm != 0 && m.Arm != 1 || m.Joint != 0 && m.Joint != 1 && m.Joint != 2 || m.By != 1 && m.By != -1 {
		return api.State{}, false
	}
	value := w.Q[m.Arm][m.Joint] + m.By
	if value < c.Arms[m.Arm].Low[m.Joint] || value > c.Arms[m.Arm].High[m.Joint] {
		return api.State{}, false
	}
	w = cloned(w)
	w.Q[m.Arm][m.Joint] = value
	return w, true
}

// pivotOf adds up the links of the arm that m moves, up to its joint.
func pivotOf(c api.Cell, w api.State, m api.Move) api.Point {
	a := c.Arms[m.Arm]
	at, scale := a.Base, unit
	directions := arm.LinkDirections(a, w.Q[m.Arm])
	for k, d := range directions[:m.Joint] {
		scale /= 65
		at = plus(at, pt(scale*a.Lens[k]*d.X, scale*a.Lens[k]*d.Y))
	}
	return at
}

// turned is the image of x after a turn about the pivot by the angle between two joint values.
func turned(x, pivot api.Point, from, to int) api.Point {
	c, s := rotation.CosSin(from)
	d, t := rotation.CosSin(to)
	cos, sin := c*d+s*t, c*t-s*d
	u := minus(x, pivot)
	return plus(pivot, pt((u.X*cos-u.Y*sin)/65/65, (u.X*sin+u.Y*cos)/65/65))
}

// regionOf is the swept region of an area of a body that moves with m.
func regionOf(c api.Cell, w api.State, m api.Move, area api.Polygon) api.Polygon {
	pivot, from := pivotOf(c, w, m), w.Q[m.Arm][m.Joint]
	l := slices.Clone(area)
	for _, x := range area {
		y := turned(x, pivot, from, from+m.By)
		u := plus(minus(x, pivot), minus(y, pivot))
		l = append(l, y, plus(pivot, pt(u.X/16*9, u.Y/16*9)))
	}
	return wrap(l)
}

// doubleArea returns twice the signed area of the triangle (a, b, c), which is positive if c is to the left of the line from a to b.
func doubleArea(a, b, c api.Point) int {
	return a.X*b.Y - a.Y*b.X + b.X*c.Y - b.Y*c.X + c.X*a.Y - c.Y*a.X
}

// wrap returns the hull of l, from its leftmost and lowest corner on. It walks around l: the next corner is the element that has no other one to the right of the way to it, and the farthest of these.
func wrap(l []api.Point) api.Polygon {
	square := func(u api.Point) int { return u.X*u.X + u.Y*u.Y }
	start := slices.MinFunc(l, func(a, b api.Point) int { return slices.Compare([]int{a.X, a.Y}, []int{b.X, b.Y}) })
	hull := api.Polygon{start}
	for {
		here := hull[len(hull)-1]
		there := here
		for _, x := range l {
			side := doubleArea(here, there, x)
			if side < 0 || side == 0 && square(minus(x, here)) > square(minus(there, here)) {
				there = x
			}
		}
		if there == start {
			return hull
		}
		hull = append(hull, there)
	}
}

// isInConvex reports whether x is inside a convex polygon or on its boundary.
func isInConvex(p api.Polygon, x api.Point) bool {
	for i, a := range p {
		if doubleArea(a, p[(i+1)%len(p)], x) < 0 {
			return false
		}
	}
	return true
}

// pairsOf is O2.
func pairsOf(c api.Cell, w api.State, m api.Move) []api.BodyPair {
	if _, ok := nextOf(c, w, m); !ok {
		return nil
	}
	var l []api.BodyPair
	for _, p := range collision.CheckedPairs(c, w) {
		switch movesA, movesB := isMoved(p.A, m), isMoved(p.B, m); {
		case movesA && !movesB:
			p.A.Area = regionOf(c, w, m, p.A.Area)
			l = append(l, p)
		case movesB && !movesA:
			p.B.Area = regionOf(c, w, m, p.B.Area)
			l = append(l, p)
		}
	}
	return l
}

// check is a check of O3, whether its parts meet, and its witness of the one or the other.
type check struct {
	pair, a, b    int
	first, second api.Polygon
	meet          bool
	edge          api.Separator
	touch         api.Contact
}

// checksOf lists the checks of pairs.
func checksOf(l []api.BodyPair) []check {
	var all []check
	for i, p := range l {
		for a, first := range hull.Decompose(p.A.Area) {
			for b, second := range hull.Decompose(p.B.Area) {
				k := check{pair: i, a: a, b: b, first: first, second: second, meet: hullsMeet(first, second)}
				if k.meet {
					k.touch, _ = intersect.FindContact(first, second)
				} else {
					k.edge, _ = intersect.SeparatingEdge(first, second)
				}
				all = append(all, k)
			}
		}
	}
	return all
}

// separatorsOf is the certificate of O3, for a valid move.
func separatorsOf(all []check) ([]api.Separator, bool) {
	var l []api.Separator
	for _, k := range all {
		if k.meet {
			return nil, false
		}
		l = append(l, k.edge)
	}
	return l, true
}

// obstructionOf is O4, for a valid move.
func obstructionOf(all []check, m api.Move) (api.Obstruction, bool) {
	for _, k := range all {
		if k.meet {
			return api.Obstruction{Node: 0, Move: m, Pair: k.pair, A: k.a, B: k.b, Touch: k.touch}, true
		}
	}
	return api.Obstruction{}, false
}

// isReached reports whether a turn to the left by less than half a turn, or none at all, leads from the direction of v to the direction of w.
func isReached(v, w api.Point) bool {
	cross, dot := v.X*w.Y-v.Y*w.X, v.X*w.X+v.Y*w.Y
	return cross > 0 || cross == 0 && dot > 0
}

// hullsMeet reports whether the convex hulls of two sets of points have a common point.
// They do if the origin is in the hull of the differences of their points, which it is not if all differences are reached from one of them.
func hullsMeet(p, q []api.Point) bool {
	var l []api.Point
	for _, x := range p {
		for _, y := range q {
			l = append(l, minus(x, y))
		}
	}
	return !slices.ContainsFunc(l, func(v api.Point) bool {
		return !slices.ContainsFunc(l, func(w api.Point) bool { return !isReached(v, w) })
	})
}

// drawIn returns a number from low to high.
func drawIn(r *rand.Rand, low, high int) int { return low + r.Intn(high-low+1) }

// drawUpTo returns a point with coordinates from -size to size.
func drawUpTo(r *rand.Rand, size int) api.Point {
	return pt(drawIn(r, -size, size), drawIn(r, -size, size))
}

// grow returns a valid polygon with up to n corners from draw.
func grow(r *rand.Rand, n int, draw func() api.Point) api.Polygon {
	p := api.Polygon{draw(), draw(), draw()}
	for !polygon.Valid(p) {
		p = api.Polygon{draw(), draw(), draw()}
	}
	for range 8 * n {
		larger := slices.Insert(slices.Clone(p), r.Intn(len(p)+1), draw())
		if len(p) < n && polygon.Valid(larger) {
			p = larger
		}
	}
	return p
}

// drawShape returns a shape of a part.
func drawShape(r *rand.Rand, size int) api.Polygon {
	for {
		p := grow(r, drawIn(r, 3, 4), func() api.Point { return drawUpTo(r, size) })
		if hull.IsConvex(p) {
			return p
		}
	}
}

// drawJoints returns joint values within the limits of an arm.
func drawJoints(r *rand.Rand, a api.Arm) api.Joints {
	var q api.Joints
	for k := range q {
		q[k] = drawIn(r, a.Low[k], a.High[k])
	}
	return q
}

// drawCell returns a valid cell with up to five places, five parts and three fixtures around two arms that reach each other.
func drawCell(r *rand.Rand) api.Cell {
	l := api.Limits{V: 1, A: 1, J: 1}
	c := api.Cell{Limits: l, Loaded: l, Slow: 1}
	center := units(drawIn(r, -30, 30), drawIn(r, -30, 30))
	for k := range c.Arms {
		by := drawUpTo(r, unit/16*drawIn(r, 2, 20))
		a := api.Arm{Base: plus(center, pt(16*by.X, 16*by.Y)), Wide: drawIn(r, 1, 2)}
		for i := range a.Lens {
			a.Lens[i] = drawIn(r, 1, 8)
			a.Low[i], a.High[i] = -17, 18
			if r.Intn(8) == 0 {
				a.Low[i] = drawIn(r, -17, 18)
				a.High[i] = drawIn(r, a.Low[i], 18)
			}
		}
		c.Arms[k], c.Home[k] = a, drawJoints(r, a)
	}
	for range r.Intn(4) {
		c.Fixtures = append(c.Fixtures, drawFixture(r, center))
	}
	for i := range drawIn(r, 1, 5) {
		by := drawUpTo(r, unit)
		d := rotation.Compose(rotation.Compose(rotation.Compose(api.Direction{X: 1}, r.Intn(36)), r.Intn(36)), r.Intn(36))
		c.Places = append(c.Places, api.Place{Name: fmt.Sprintf("at%d", i), At: plus(center, pt(16*by.X, 16*by.Y)), Dir: d})
	}
	where := r.Perm(len(c.Places))
	for i := range r.Intn(len(where) + 1) {
		c.Parts = append(c.Parts, api.Part{Name: fmt.Sprintf("p%d", i), Shape: drawShape(r, drawIn(r, 1, 4)), Place: where[i]})
	}
	return c
}

// drawFixture returns a polygon of up to 12 corners not far from a point.
func drawFixture(r *rand.Rand, center api.Point) api.Polygon {
	size := drawIn(r, 1, 6) * unit / 2
	p := grow(r, drawIn(r, 3, 12), func() api.Point { return drawUpTo(r, size) })
	return moved(p, plus(center, drawUpTo(r, 20*unit)))
}

// drawState returns a valid state with parts at places, held and lost.
func drawState(r *rand.Rand, c api.Cell) api.State {
	w := api.State{Q: [2]api.Joints{drawJoints(r, c.Arms[0]), drawJoints(r, c.Arms[1])}, Held: [2]int{-1, -1}}
	places := r.Perm(len(c.Places))
	for i := range c.Parts {
		w.Where = append(w.Where, places[i])
		if k := r.Intn(3); k < 2 && w.Held[k] < 0 {
			w.Held[k], w.Where[i] = i, -1
		} else if r.Intn(8) == 0 {
			w.Where[i] = -1
		}
	}
	return w
}

// drawFree returns a valid cell with a valid state, in most cases one without collisions.
func drawFree(r *rand.Rand) (api.Cell, api.State) {
	c := drawCell(r)
	w := drawState(r, c)
	for tries := 0; tries < 20 && !collision.IsFree(c, w); tries++ {
		w = drawState(r, c)
	}
	return c, w
}

// drawScene returns a valid cell, a valid state and a move, which is valid unless a joint is at its limit. In most cases, a body is laid so that it touches a swept region or almost touches it.
func drawScene(r *rand.Rand) (api.Cell, api.State, api.Move) {
	c, w := drawFree(r)
	m := api.Move{Arm: r.Intn(2), Joint: r.Intn(3), By: 2*r.Intn(2) - 1}
	var regions []api.Polygon
	for _, p := range pairsOf(c, w, m) {
		for _, b := range []api.Body{p.A, p.B} {
			if isMoved(b, m) {
				regions = append(regions, b.Area)
			}
		}
	}
	if len(regions) == 0 {
		return c, w, m
	}
	if region := regions[r.Intn(len(regions))]; r.Intn(3) == 0 {
		c = fixture(c, drawOutside(r, region))
	} else if r.Intn(3) == 0 {
		f := drawFixture(r, api.Point{})
		c = fixture(c, moved(f, minus(plus(drawOnBoundary(r, region), drawUpTo(r, 1)), f[r.Intn(len(f))])))
	}
	if region := regions[r.Intn(len(regions))]; r.Intn(3) == 0 {
		c = withPlaceNear(r, c, w, region)
	} else if r.Intn(3) == 0 {
		c = withArmNear(r, c, w, 1-m.Arm, region)
	}
	return c, w, m
}

// drawOnBoundary returns a corner of a polygon, or a point on one of its edges or almost on it.
func drawOnBoundary(r *rand.Rand, p api.Polygon) api.Point {
	i, n := r.Intn(len(p)), drawIn(r, 0, 4)
	a, b := p[i], p[(i+1)%len(p)]
	return plus(a, pt((b.X-a.X)/4*n, (b.Y-a.Y)/4*n))
}

// drawOutside returns a triangle that lies outside of a convex polygon, but for a corner that touches it or almost touches it.
func drawOutside(r *rand.Rand, p api.Polygon) api.Polygon {
	x, center := drawOnBoundary(r, p), api.Point{}
	for _, corner := range p {
		center = plus(center, pt(corner.X/len(p), corner.Y/len(p)))
	}
	u := minus(x, center)
	v := pt(-u.Y/drawIn(r, 2, 9), u.X/drawIn(r, 2, 9))
	x = plus(x, drawUpTo(r, 1))
	return api.Polygon{x, plus(x, minus(u, v)), plus(x, plus(u, v))}
}

// near returns a vector, the coordinates of which are multiples of 16, that moves a corner of one area to the boundary of another one, or almost there.
func near(r *rand.Rand, from, to api.Polygon) api.Point {
	by := minus(drawOnBoundary(r, to), from[r.Intn(len(from))])
	return pt(by.X/16*16+16*drawIn(r, -1, 1), by.Y/16*16+16*drawIn(r, -1, 1))
}

// withPlaceNear returns a cell in which the place of the first resting part is moved so that the part touches an area or almost touches it, if there is one.
func withPlaceNear(r *rand.Rand, c api.Cell, w api.State, area api.Polygon) api.Cell {
	for _, b := range collision.Bodies(c, w) {
		if b.Kind == api.BodyResting {
			c.Places = slices.Clone(c.Places)
			p := &c.Places[w.Where[b.I]]
			p.At = plus(p.At, near(r, b.Area, area))
			break
		}
	}
	return c
}

// withArmNear returns a cell in which arm k stands so that the part it holds, or its last link, touches an area or almost touches it, unless it cannot stand there.
func withArmNear(r *rand.Rand, c api.Cell, w api.State, k int, area api.Polygon) api.Cell {
	d := c
	for _, b := range collision.Bodies(c, w) {
		if b.Kind <= 2 && b.I == k {
			d.Arms[k].Base = plus(c.Arms[k].Base, near(r, b.Area, area))
		}
	}
	if cell.Valid(d) {
		return d
	}
	return c
}

// yard is a cell with two arms of three links of 10 units in opposite corners, without any other bodies.
func yard() api.Cell {
	a := api.Arm{Lens: [3]int{10, 10, 10}, Wide: 1, Low: api.Joints{-17, -17, -17}, High: api.Joints{18, 18, 18}}
	l := api.Limits{V: 1, A: 1, J: 1}
	c := api.Cell{Arms: [2]api.Arm{a, a}, Limits: l, Loaded: l, Slow: 1}
	c.Arms[0].Base, c.Arms[1].Base = units(-40, -40), units(40, 40)
	c.Home = [2]api.Joints{{9}, {-9}}
	return c
}

// part appends a part with a place for it, with the gripper to the right there.
func part(c api.Cell, shape api.Polygon, at api.Point) api.Cell {
	i := len(c.Parts)
	c.Places = append(slices.Clone(c.Places), api.Place{Name: fmt.Sprintf("at%d", i), At: at, Dir: api.Direction{X: 274625, N: 3}})
	c.Parts = append(slices.Clone(c.Parts), api.Part{Name: fmt.Sprintf("part%d", i), Shape: shape, Place: i})
	return c
}

// fixture appends a fixture.
func fixture(c api.Cell, area api.Polygon) api.Cell {
	c.Fixtures = append(slices.Clone(c.Fixtures), area)
	return c
}

// standing returns a state that differs from w in the joint values of an arm.
func standing(w api.State, k int, q api.Joints) api.State {
	w = cloned(w)
	w.Q[k] = q
	return w
}

// holding returns a state that differs from w in that an arm holds a part.
func holding(w api.State, k, part int) api.State {
	w = cloned(w)
	w.Held[k], w.Where[part] = part, -1
	return w
}

// cloned returns a state that shares no memory with w.
func cloned(w api.State) api.State {
	return api.State{Q: w.Q, Held: w.Held, Where: slices.Clone(w.Where)}
}

// checkScene checks that a cell and a state are valid, so that the behavior is specified.
func checkScene(t *testing.T, what string, c api.Cell, w api.State) {
	t.Helper()
	if !cell.Valid(c) || !collision.ValidState(c, w) {
		t.Fatalf("%s: the cell or the state is not valid: %v, %v", what, c, w)
	}
}
