package arm_test

import (
	"cmp"
	"math"
	"math/big"
	"math/rand"
	"slices"
	"sync"

	"ambidexter/api"
)

// unit is the number of fixed-point steps per unit of length, and far the largest coordinate of a valid point.
const (
	unit = 4394000
	far  = 100 * unit
)

// pt is a point.
func pt(x, y int) api.Point { return api.Point{X: x, Y: y} }

// plus and minus return the sum and the difference of two points.
func plus(a, b api.Point) api.Point  { return pt(a.X+b.X, a.Y+b.Y) }
func minus(a, b api.Point) api.Point { return pt(a.X-b.X, a.Y-b.Y) }

// scaled returns a point whose coordinates are those of p, multiplied by n.
func scaled(p api.Point, n int) api.Point { return pt(n*p.X, n*p.Y) }

// cross and dot return the products of two vectors.
func cross(u, v api.Point) int { return u.X*v.Y - u.Y*v.X }
func dot(u, v api.Point) int   { return u.X*v.X + u.Y*v.Y }

// square returns the square of the length of a vector.
func square(u api.Point) int { return dot(u, u) }

// times returns the product of two points as complex numbers: u turned by the angle of v and stretched by its length.
func times(u, v api.Point) api.Point { return pt(u.X*v.X-u.Y*v.Y, u.X*v.Y+u.Y*v.X) }

// quarter returns a vector after a quarter turn.
func quarter(u api.Point) api.Point { return pt(-u.Y, u.X) }

// rotations are the vectors of length 65 with integer coordinates by their angles, from 0 on.
var rotations = sync.OnceValue(func() []api.Point {
	var l []api.Point
	for x := -65; x <= 65; x++ {
		for y := -65; y <= 65; y++ {
			if x*x+y*y == 65*65 {
				l = append(l, pt(x, y))
			}
		}
	}
	angle := func(u api.Point) float64 {
		return math.Mod(math.Atan2(float64(u.Y), float64(u.X))+2*math.Pi, 2*math.Pi)
	}
	slices.SortFunc(l, func(u, v api.Point) int { return cmp.Compare(angle(u), angle(v)) })
	return l
})

// turned returns u turned by a joint value and stretched by 65.
func turned(u api.Point, value int) api.Point { return times(u, rotations()[(value+36)%36]) }

// pose is what G2 and G3 say about an arm whose joints have certain values.
type pose struct {
	directions [3]api.Direction
	points     [4]api.Point
	bodies     [3]api.Polygon
}

// poseOf is G2 and G3.
func poseOf(a api.Arm, q api.Joints) pose {
	p := pose{points: [4]api.Point{a.Base}}
	d, step := pt(1, 0), unit
	for k, value := range q {
		d, step = turned(d, value), step/65
		p.directions[k] = api.Direction{X: d.X, Y: d.Y, N: k + 1}
		begin := p.points[k]
		end := plus(begin, scaled(d, step*a.Lens[k]))
		side := quarter(scaled(d, step*a.Wide))
		p.points[k+1] = end
		p.bodies[k] = api.Polygon{minus(begin, side), minus(end, side), plus(end, side), plus(begin, side)}
	}
	return p
}

// isValid is the section Types, with the sums in numbers of any size.
func isValid(a api.Arm) bool {
	ok := a.Base.X%16 == 0 && a.Base.Y%16 == 0 && 1 <= a.Wide && a.Wide <= 4
	reach := big.NewInt(int64(a.Wide))
	for k, n := range a.Lens {
		ok = ok && 1 <= n && n <= 40
		reach.Add(reach, big.NewInt(int64(n)))
		ok = ok && -17 <= a.Low[k] && a.Low[k] <= 18 && -17 <= a.High[k] && a.High[k] <= 18 && a.Low[k] <= a.High[k]
	}
	reach.Mul(reach, big.NewInt(unit))
	for _, x := range []int{a.Base.X, a.Base.Y} {
		farthest := new(big.Int).Abs(big.NewInt(int64(x)))
		ok = ok && farthest.Add(farthest, reach).Cmp(big.NewInt(far)) <= 0
	}
	return ok
}

// isInLimits reports whether all joints of q are between their limits.
func isInLimits(a api.Arm, q api.Joints) bool {
	return a.Low[0] <= q[0] && q[0] <= a.High[0] && a.Low[1] <= q[1] && q[1] <= a.High[1] && a.Low[2] <= q[2] && q[2] <= a.High[2]
}

// free returns an arm whose joints may have all values.
func free(base api.Point, lens [3]int, wide int) api.Arm {
	return api.Arm{Base: base, Lens: lens, Wide: wide, Low: api.Joints{-17, -17, -17}, High: api.Joints{18, 18, 18}}
}

// example returns the arm of the chapter's examples.
func example() api.Arm { return free(pt(0, 0), [3]int{1, 1, 1}, 1) }

// total returns the sum of the lengths.
func total(a api.Arm) int { return a.Lens[0] + a.Lens[1] + a.Lens[2] }

// room returns the largest coordinate of a base from which an arm does not reach out of the cell.
func room(a api.Arm) int { return far - (total(a)+a.Wide)*unit }

// sizes are lengths and widths of links: the least and the largest ones, arms that reach 100 units, one link longer than the others together, as long as they are or shorter, links of width 1 and of width 4, as long as wide, as long as half of that, and shorter.
func sizes() []api.Arm {
	var l []api.Arm
	for _, x := range [][4]int{
		{1, 1, 1, 1}, {2, 2, 2, 1}, {1, 1, 1, 4}, {4, 4, 4, 4}, {8, 8, 8, 4}, {2, 4, 8, 2},
		{40, 40, 16, 4}, {16, 40, 40, 4}, {40, 19, 40, 1}, {33, 32, 31, 4},
		{40, 1, 1, 1}, {1, 40, 1, 4}, {1, 1, 40, 2}, {30, 20, 10, 3}, {10, 30, 20, 4}, {20, 10, 30, 1}, {12, 9, 7, 1}, {23, 17, 29, 3},
	} {
		l = append(l, free(pt(0, 0), [3]int{x[0], x[1], x[2]}, x[3]))
	}
	return l
}

// at returns an arm with another base.
func at(a api.Arm, base api.Point) api.Arm {
	a.Base = base
	return a
}

// arms are arms of all sizes, each at the origin, near it, and at all corners of the range from which it reaches to the ends of the cell.
func arms() []api.Arm {
	var l []api.Arm
	for _, a := range sizes() {
		l = append(l, a)
		r := room(a)
		if r > 0 {
			l = append(l, at(a, pt(16, -32)), at(a, pt(-r/3/16*16, r/7/16*16)))
			l = append(l, at(a, pt(r, r)), at(a, pt(-r, r)), at(a, pt(-r, -r)), at(a, pt(r, -r)))
		}
	}
	return l
}

// everyJoints are all joint values within the limits of an arm.
func everyJoints(a api.Arm) []api.Joints {
	var l []api.Joints
	for x := a.Low[0]; x <= a.High[0]; x++ {
		for y := a.Low[1]; y <= a.High[1]; y++ {
			for z := a.Low[2]; z <= a.High[2]; z++ {
				l = append(l, api.Joints{x, y, z})
			}
		}
	}
	return l
}

// manyJoints are joint values of which each single one is taken by each joint, together with the most different values of the others.
var manyJoints = sync.OnceValue(func() []api.Joints {
	few := []int{-17, -9, -4, 0, 1, 9, 18}
	var l []api.Joints
	for x := -17; x <= 18; x++ {
		for _, y := range few {
			for _, z := range few {
				l = append(l, api.Joints{x, y, z}, api.Joints{z, x, y}, api.Joints{y, z, x})
			}
		}
	}
	return l
})

// drawIn returns a number from low to high.
func drawIn(r *rand.Rand, low, high int) int { return low + r.Intn(high-low+1) }

// drawArm returns a valid arm.
func drawArm(r *rand.Rand) api.Arm {
	a := api.Arm{Wide: drawIn(r, 1, 4), Lens: [3]int{100, 0, 0}}
	most := drawIn(r, 1, 40)
	for room(a) < 0 {
		a.Lens = [3]int{drawIn(r, 1, most), drawIn(r, 1, most), drawIn(r, 1, most)}
	}
	steps := room(a) / 16
	a.Base = pt(16*drawIn(r, -steps, steps), 16*drawIn(r, -steps, steps))
	for k := range 3 {
		x, y := drawIn(r, -17, 18), drawIn(r, -17, 18)
		a.Low[k], a.High[k] = min(x, y), max(x, y)
	}
	return a
}

// drawJoints returns joints within the limits of an arm.
func drawJoints(r *rand.Rand, a api.Arm) api.Joints {
	var q api.Joints
	for k := range q {
		q[k] = drawIn(r, a.Low[k], a.High[k])
	}
	return q
}
