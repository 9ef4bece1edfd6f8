package collision_test

import (
	"fmt"
	"math/rand"
	"slices"
	"strings"
	"testing"

	"ambidexter/api"
	"ambidexter/arm"
	"ambidexter/cell"
	"ambidexter/hull"
	"ambidexter/polygon"
)

// unit is the number of fixed-point steps per unit of length, far the largest coordinate in range.
const (
	unit = 4394000
	far  = 100 * unit
)

// described is the valid cell with a description.
func described(t *testing.T, text string) api.Cell {
	t.Helper()
	c, l := cell.Parse(text)
	if len(l) > 0 {
		t.Fatalf("no cell has the description %q: %v", text, l)
	}
	return c
}

// pt is a point, and units a point with whole units as coordinates.
func pt(x, y int) api.Point    { return api.Point{X: x, Y: y} }
func units(x, y int) api.Point { return pt(unit*x, unit*y) }

// plus and minus return the sum and the difference of two points.
func plus(a, b api.Point) api.Point  { return pt(a.X+b.X, a.Y+b.Y) }
func minus(a, b api.Point) api.Point { return pt(a.X-b.X, a.Y-b.Y) }

// poly is the polygon whose corners have the coordinates x, y, x, y and so on.
func poly(coordinates ...int) api.Polygon {
	var p api.Polygon
	for c := range slices.Chunk(coordinates, 2) {
		p = append(p, pt(c[0], c[1]))
	}
	return p
}

// box is the rectangle between two corners.
func box(low, high api.Point) api.Polygon {
	return poly(low.X, low.Y, high.X, low.Y, high.X, high.Y, low.X, high.Y)
}

// mapped returns the images of the corners of p.
func mapped(p api.Polygon, image func(x api.Point) api.Point) api.Polygon {
	p = slices.Clone(p)
	for i, x := range p {
		p[i] = image(x)
	}
	return p
}

// moved returns p translated by a vector.
func moved(p api.Polygon, by api.Point) api.Polygon {
	return mapped(p, func(x api.Point) api.Point { return plus(x, by) })
}

// label names a body: L12 is link 2 of arm 1, C0 what arm 0 carries, R3 part 3 at its place, F4 fixture 4.
func label(b api.Body) string {
	switch b.Kind {
	case 1:
		return fmt.Sprintf("L%d%d", b.I, b.J)
	case 2, 3, 4:
		return fmt.Sprintf("%c%d", "CRF"[b.Kind-2], b.I)
	}
	return "?"
}

// labels names all bodies of a list.
func labels(l []api.Body) string {
	var names []string
	for _, b := range l {
		names = append(names, label(b))
	}
	return strings.Join(names, " ")
}

// labelOf names a pair.
func labelOf(p api.BodyPair) string { return label(p.A) + "-" + label(p.B) }

// pairLabels names all pairs of a list.
func pairLabels(l []api.BodyPair) []string {
	names := []string{}
	for _, p := range l {
		names = append(names, labelOf(p))
	}
	return names
}

// unordered names all pairs of a list, the lesser label first, in the order of their names.
func unordered(l []api.BodyPair) []string {
	names := []string{}
	for _, p := range l {
		a, b := label(p.A), label(p.B)
		names = append(names, min(a, b)+"-"+max(a, b))
	}
	slices.Sort(names)
	return names
}

// pose is the position and the direction of the end of a link, the latter as a vector of the length 65 to the power N.
type pose struct {
	begin, end api.Point
	d          api.Direction
}

// posesOf adds up the links of an arm.
func posesOf(a api.Arm, q api.Joints) [3]pose {
	var l [3]pose
	at, scale := a.Base, unit
	for k, d := range arm.LinkDirections(a, q) {
		scale /= 65
		end := plus(at, pt(scale*a.Lens[k]*d.X, scale*a.Lens[k]*d.Y))
		l[k] = pose{at, end, d}
		at = end
	}
	return l
}

// linkOf is the area of a link: both ends with half the width on either side.
func linkOf(a api.Arm, q api.Joints, k int) api.Polygon {
	p, scale := posesOf(a, q)[k], unit
	for range p.d.N {
		scale /= 65
	}
	left := pt(-scale*a.Wide*p.d.Y, scale*a.Wide*p.d.X)
	return api.Polygon{minus(p.begin, left), minus(p.end, left), plus(p.end, left), plus(p.begin, left)}
}

// laid is the area of a part whose point of reference is at a point, in the direction d.
func laid(p api.Part, at api.Point, d api.Direction) api.Polygon {
	const scale = unit / 65 / 65 / 65
	along, across := pt(scale*d.X, scale*d.Y), pt(-scale*d.Y, scale*d.X)
	return mapped(p.Shape, func(x api.Point) api.Point {
		return plus(at, plus(pt(x.X*along.X, x.X*along.Y), pt(x.Y*across.X, x.Y*across.Y)))
	})
}

// bodiesOf is N1.
func bodiesOf(c api.Cell, w api.State) []api.Body {
	var l []api.Body
	for n := range 6 {
		l = append(l, api.Body{Kind: 1, I: n / 3, J: n % 3, Area: linkOf(c.Arms[n/3], w.Q[n/3], n%3)})
	}
	for k := range 2 {
		if w.Held[k] >= 0 {
			tip := posesOf(c.Arms[k], w.Q[k])[2]
			l = append(l, api.Body{Kind: 2, I: k, Area: laid(c.Parts[w.Held[k]], tip.end, tip.d)})
		}
	}
	for i, p := range c.Parts {
		if w.Where[i] >= 0 {
			place := c.Places[w.Where[i]]
			l = append(l, api.Body{Kind: 3, I: i, Area: laid(p, place.At, place.Dir)})
		}
	}
	for i, f := range c.Fixtures {
		l = append(l, api.Body{Kind: 4, I: i, Area: f})
	}
	return l
}

// isListed reports whether N2 lists a and b, in this order.
func isListed(a, b api.Body) bool {
	switch 10*a.Kind + b.Kind {
	case 11:
		return a.I != b.I || a.J == 0 && b.J == 2
	case 14:
		return true
	case 13:
		return a.J == 0 || a.J == 1
	case 24, 23, 22:
		return true
	case 21:
		return a.I != b.I || b.J == 0
	}
	return false
}

// checkedOf is the first half of N3.
func checkedOf(c api.Cell, w api.State) []api.BodyPair {
	var l []api.BodyPair
	all := bodiesOf(c, w)
	for i, a := range all {
		for _, b := range all[i+1:] {
			if isListed(a, b) || isListed(b, a) {
				l = append(l, api.BodyPair{A: a, B: b})
			}
		}
	}
	return l
}

// isReached reports whether a turn to the left by less than half a turn, or none at all, leads from the direction of v to the direction of w.
func isReached(v, w api.Point) bool {
	cross, dot := v.X*w.Y-v.Y*w.X, v.X*w.X+v.Y*w.Y
	return cross > 0 || cross == 0 && dot > 0
}

// hullsMeet reports whether the convex hulls of two sets of points have a common point.
// They do if the origin is in the hull of the differences of their points, which it is not if all differences are reached from one of them.
func hullsMeet(p, q []api.Point) bool {
	var l []api.Point
	for _, x := range p {
		for _, y := range q {
			l = append(l, minus(x, y))
		}
	}
	return !slices.ContainsFunc(l, func(v api.Point) bool {
		return !slices.ContainsFunc(l, func(w api.Point) bool { return !isReached(v, w) })
	})
}

// meet reports whether two polygons have a common point: whether two of their convex parts have one.
func meet(p, q api.Polygon) bool {
	others := hull.Decompose(q)
	return slices.ContainsFunc(hull.Decompose(p), func(a api.Polygon) bool {
		return slices.ContainsFunc(others, func(b api.Polygon) bool { return hullsMeet(a, b) })
	})
}

// touchingOf is the second half of N3.
func touchingOf(c api.Cell, w api.State) []api.BodyPair {
	return slices.DeleteFunc(checkedOf(c, w), func(p api.BodyPair) bool { return !meet(p.A.Area, p.B.Area) })
}

// isState is the section Types, apart from the range of corners: no body of a valid cell reaches beyond it.
func isState(c api.Cell, w api.State) bool {
	for n := range 6 {
		k, joint := n/3, n%3
		if w.Q[k][joint] < c.Arms[k].Low[joint] || w.Q[k][joint] > c.Arms[k].High[joint] {
			return false
		}
	}
	if len(w.Where) != len(c.Parts) {
		return false
	}
	used := map[int]int{}
	for _, place := range w.Where {
		used[place]++
		if place != -1 && (place < 0 || place >= len(c.Places) || used[place] > 1) {
			return false
		}
	}
	for _, part := range w.Held {
		if part != -1 && (part < 0 || part >= len(c.Parts) || w.Where[part] != -1) {
			return false
		}
	}
	return w.Held[0] != w.Held[1] || w.Held[0] == -1
}

// drawIn returns a number from low to high.
func drawIn(r *rand.Rand, low, high int) int { return low + r.Intn(high-low+1) }

// drawUpTo returns a point with coordinates from -size to size.
func drawUpTo(r *rand.Rand, size int) api.Point {
	return pt(drawIn(r, -size, size), drawIn(r, -size, size))
}

// grow returns a valid polygon with up to n corners from draw.
func grow(r *rand.Rand, n int, draw func() api.Point) api.Polygon {
	p := api.Polygon{draw(), draw(), draw()}
	for !polygon.Valid(p) {
		p = api.Polygon{draw(), draw(), draw()}
	}
	for range 8 * n {
		larger := slices.Insert(slices.Clone(p), r.Intn(len(p)+1), draw())
		if len(p) < n && polygon.Valid(larger) {
			p = larger
		}
	}
	return p
}

// drawShape returns a shape of a part.
func drawShape(r *rand.Rand, size int) api.Polygon {
	for {
		p := grow(r, drawIn(r, 3, 4), func() api.Point { return drawUpTo(r, size) })
		if hull.IsConvex(p) {
			return p
		}
	}
}

// drawJoints returns joint values within the limits of an arm.
func drawJoints(r *rand.Rand, a api.Arm) api.Joints {
	var q api.Joints
	for k := range q {
		q[k] = drawIn(r, a.Low[k], a.High[k])
		if x := []int{-9, 0, 9}[r.Intn(3)]; r.Intn(3) == 0 && x >= a.Low[k] && x <= a.High[k] {
			q[k] = x
		}
	}
	return q
}

// drawCell returns a valid cell whose arms stand close together, with up to five places, four parts and three fixtures around them.
func drawCell(r *rand.Rand) api.Cell {
	c := api.Cell{Limits: api.Limits{V: 1, A: 1, J: 1}, Loaded: api.Limits{V: 1, A: 1, J: 1}, Slow: 1}
	center := units(drawIn(r, -30, 30), drawIn(r, -30, 30))
	for k := range c.Arms {
		by := drawUpTo(r, unit/16*drawIn(r, 2, 12))
		a := api.Arm{Base: plus(center, pt(16*by.X, 16*by.Y)), Wide: drawIn(r, 1, 2)}
		for i := range a.Lens {
			a.Lens[i] = drawIn(r, 1, 8)
			a.Low[i], a.High[i] = -17, 18
			if r.Intn(8) == 0 {
				a.Low[i] = drawIn(r, -17, 18)
				a.High[i] = drawIn(r, a.Low[i], 18)
			}
		}
		c.Arms[k], c.Home[k] = a, drawJoints(r, a)
	}
	for range r.Intn(4) {
		c.Fixtures = append(c.Fixtures, drawFixture(r, center))
	}
	for i := range min(r.Intn(8), 5) {
		c.Places = append(c.Places, drawPlace(r, c, i))
	}
	where := r.Perm(len(c.Places))
	for i := range max(r.Intn(min(len(where), 4)+1), r.Intn(min(len(where), 4)+1)) {
		c.Parts = append(c.Parts, api.Part{Name: fmt.Sprintf("p%d", i), Shape: drawShape(r, drawIn(r, 1, 4)), Place: where[i]})
	}
	return c
}

// drawFixture returns a polygon of up to 12 corners not far from a point.
func drawFixture(r *rand.Rand, center api.Point) api.Polygon {
	size := drawIn(r, 1, 6) * unit / 2
	p := grow(r, drawIn(r, 3, 12), func() api.Point { return drawUpTo(r, size) })
	return moved(p, plus(center, drawUpTo(r, 14*unit)))
}

// drawPlace returns a place that an arm reaches, or one that is near by.
func drawPlace(r *rand.Rand, c api.Cell, i int) api.Place {
	a := c.Arms[r.Intn(2)]
	x := posesOf(a, drawJoints(r, a))[2]
	if r.Intn(2) == 0 {
		by := drawUpTo(r, unit/16*8)
		x.end = plus(x.end, pt(16*by.X, 16*by.Y))
	}
	return api.Place{Name: fmt.Sprintf("at%d", i), At: x.end, Dir: x.d}
}

// drawState returns a valid state with parts at places, held and lost.
func drawState(r *rand.Rand, c api.Cell) api.State {
	w := api.State{Q: [2]api.Joints{drawJoints(r, c.Arms[0]), drawJoints(r, c.Arms[1])}, Held: [2]int{-1, -1}}
	places := r.Perm(len(c.Places))
	for i := range c.Parts {
		w.Where = append(w.Where, places[i])
		if k := r.Intn(4); k < 2 && w.Held[k] < 0 {
			w.Held[k], w.Where[i] = i, -1
		} else if r.Intn(8) == 0 {
			w.Where[i] = -1
		}
	}
	return w
}

// drawScene returns a valid cell with a valid state, in half of all cases with a fixture more that touches a body or almost touches it, and in a third of them with a place moved so that the part there does.
func drawScene(r *rand.Rand) (api.Cell, api.State) {
	c := drawCell(r)
	w := drawState(r, c)
	if r.Intn(3) == 0 {
		c = withPlaceNear(r, c, w)
	}
	if r.Intn(2) == 0 {
		x := drawCorner(r, bodiesOf(c, w))
		f := drawFixture(r, pt(0, 0))
		f = moved(f, plus(minus(x, f[r.Intn(len(f))]), drawUpTo(r, 1)))
		c.Fixtures = append(slices.Clone(c.Fixtures), f)
	}
	return c, w
}

// drawCorner returns a corner of a body or a point between two of its corners.
func drawCorner(r *rand.Rand, l []api.Body) api.Point {
	area := l[r.Intn(len(l))].Area
	i, j := r.Intn(len(area)), r.Intn(len(area))
	return pt((area[i].X+area[j].X)/2, (area[i].Y+area[j].Y)/2)
}

// withPlaceNear returns a cell in which the place of a resting part is moved so that the part touches a link or a carried part, or almost touches it.
func withPlaceNear(r *rand.Rand, c api.Cell, w api.State) api.Cell {
	c.Places = slices.Clone(c.Places)
	all := bodiesOf(c, w)
	for _, b := range all {
		if b.Kind != api.BodyResting {
			continue
		}
		movable := slices.DeleteFunc(slices.Clone(all), func(b api.Body) bool { return b.Kind > 2 })
		area := movable[r.Intn(len(movable))].Area
		by := minus(area[r.Intn(len(area))], b.Area[r.Intn(len(b.Area))])
		p := &c.Places[w.Where[b.I]]
		p.At = plus(plus(p.At, by), pt(16*drawIn(r, -1, 1), 16*drawIn(r, -1, 1)))
		break
	}
	return c
}

// standing returns a state that differs from w in the joint values of an arm.
func standing(w api.State, k int, q api.Joints) api.State {
	w = cloned(w)
	w.Q[k] = q
	return w
}

// holding returns a state that differs from w in that an arm holds a part.
func holding(w api.State, k, part int) api.State {
	w = cloned(w)
	w.Held[k], w.Where[part] = part, -1
	return w
}

// resting returns a state that differs from w in that a part that no arm holds is at a place, or lost if that is -1.
func resting(w api.State, part, place int) api.State {
	w = cloned(w)
	w.Where[part] = place
	return w
}

// cloned returns a state that shares no memory with w.
func cloned(w api.State) api.State {
	return api.State{Q: w.Q, Held: w.Held, Where: slices.Clone(w.Where)}
}
