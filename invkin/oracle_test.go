package invkin_test

import (
	"math"
	"math/rand"
	"sync"

	"ambidexter/api"
)

// unit is the number of fixed-point steps per unit of length, far the largest coordinate of a valid point, and length the length of a direction with N 3.
const (
	unit   = 4394000
	far    = 100 * unit
	length = 65 * 65 * 65
)

// pt is a point, and units a point with coordinates in units.
func pt(x, y int) api.Point    { return api.Point{X: x, Y: y} }
func units(x, y int) api.Point { return pt(unit*x, unit*y) }

// plus and minus return the sum and the difference of two points.
func plus(a, b api.Point) api.Point  { return pt(a.X+b.X, a.Y+b.Y) }
func minus(a, b api.Point) api.Point { return pt(a.X-b.X, a.Y-b.Y) }

// target is a position of the tool center point and a direction of the last link.
type target struct {
	at api.Point
	d  api.Direction
}

// turn returns the complex number of length 65 at the angle of a joint value. The numbers are small enough for float64 to be exact.
func turn(value int) complex128 {
	n := (value + 36) % 36
	quadrant := []complex128{65, 63 + 16i, 60 + 25i, 56 + 33i, 52 + 39i, 39 + 52i, 33 + 56i, 25 + 60i, 16 + 63i}
	return quadrant[n%9] * []complex128{1, 1i, -1, -1i}[n/9]
}

// direction is the direction with N 3 of a complex number.
func direction(z complex128) api.Direction {
	return api.Direction{X: int(real(z)), Y: int(imag(z)), N: 3}
}

// reached returns the target that an arm reaches with certain joint values.
func reached(a api.Arm, q api.Joints) target {
	link, tip := complex128(1), complex128(0)
	for k, value := range q {
		link *= turn(value)
		tip = 65*tip + complex(float64(a.Lens[k]), 0)*link
	}
	there := pt(unit/length*int(real(tip)), unit/length*int(imag(tip)))
	return target{plus(a.Base, there), direction(link)}
}

// wrist returns the point at which the last link of an arm at a target begins.
func wrist(a api.Arm, x target) api.Point {
	n := unit / length * a.Lens[2]
	return minus(x.at, pt(n*x.d.X, n*x.d.Y))
}

// directions are all valid directions with N 3.
var directions = sync.OnceValue(func() []api.Direction {
	var l []api.Direction
	for x := -length; x <= length; x++ {
		square := length*length - x*x
		y := int(math.Round(math.Sqrt(float64(square))))
		if y*y != square {
			continue
		}
		l = append(l, api.Direction{X: x, Y: y, N: 3})
		if y != 0 {
			l = append(l, api.Direction{X: x, Y: -y, N: 3})
		}
	}
	return l
})

// free returns an arm whose joints may have all values.
func free(base api.Point, lens [3]int) api.Arm {
	return api.Arm{Base: base, Lens: lens, Wide: 1, Low: api.Joints{-17, -17, -17}, High: api.Joints{18, 18, 18}}
}

// limited returns an arm with other limits.
func limited(a api.Arm, low, high api.Joints) api.Arm {
	a.Low, a.High = low, high
	return a
}

// isInLimits reports whether all joints of q are between the limits of an arm.
func isInLimits(a api.Arm, q api.Joints) bool {
	return a.Low[0] <= q[0] && q[0] <= a.High[0] && a.Low[1] <= q[1] && q[1] <= a.High[1] && a.Low[2] <= q[2] && q[2] <= a.High[2]
}

// everyJoints are all joint values of an arm in lexicographic order.
func everyJoints(a api.Arm) []api.Joints {
	var l []api.Joints
	for x := a.Low[0]; x <= a.High[0]; x++ {
		for y := a.Low[1]; y <= a.High[1]; y++ {
			for z := a.Low[2]; z <= a.High[2]; z++ {
				l = append(l, api.Joints{x, y, z})
			}
		}
	}
	return l
}

// atlas keeps, for each target that an arm reaches, all joint values that reach it in lexicographic order.
type atlas map[target][]api.Joints

// atlasOf is H1, read from the joint values to the targets.
func atlasOf(a api.Arm) atlas {
	m := atlas{}
	for _, q := range everyJoints(a) {
		x := reached(a, q)
		m[x] = append(m[x], q)
	}
	return m
}

// targets are the targets of an arm with this atlas, in the order of the first joint values that reach them.
func (m atlas) targets(a api.Arm) []target {
	var l []target
	for _, q := range everyJoints(a) {
		if x := reached(a, q); m[x][0] == q {
			l = append(l, x)
		}
	}
	return l
}

// room returns the largest coordinate of a base from which an arm does not reach out of the cell.
func room(a api.Arm) int { return far - (a.Lens[0]+a.Lens[1]+a.Lens[2]+a.Wide)*unit }

// lengths are lengths of links: equal ones, the first two of which can fold back to the base, ones with a link that is longer than the others together, as long as they are or shorter, and the largest ones.
func lengths() [][3]int {
	return [][3]int{
		{1, 1, 1}, {2, 1, 1}, {1, 2, 1}, {1, 1, 2}, {3, 2, 5}, {5, 3, 2}, {2, 5, 3}, {3, 4, 5},
		{40, 1, 1}, {1, 40, 1}, {1, 1, 40}, {40, 40, 15}, {15, 40, 40}, {40, 18, 40}, {33, 33, 33}, {13, 26, 7},
	}
}

// arms are arms with links of all these lengths: at the origin, near it, and reaching to the ends of the cell.
func arms() []api.Arm {
	var l []api.Arm
	for i, lens := range lengths() {
		a := free(pt(0, 0), lens)
		r := room(a)
		bases := []api.Point{pt(0, 0), pt(16, -32), pt(r, r), pt(-r, r), pt(-r, -r), pt(r, -r)}
		a.Base = bases[i%len(bases)]
		l = append(l, a)
	}
	return l
}

// drawIn returns a number from low to high.
func drawIn(r *rand.Rand, low, high int) int { return low + r.Intn(high-low+1) }

// drawArm returns a valid arm whose joints may have all values, often one whose first two links are equally long.
func drawArm(r *rand.Rand) api.Arm {
	a := free(pt(0, 0), [3]int{100, 0, 0})
	a.Wide = drawIn(r, 1, 4)
	most := drawIn(r, 1, 40)
	for room(a) < 0 {
		a.Lens = [3]int{drawIn(r, 1, most), drawIn(r, 1, most), drawIn(r, 1, most)}
		if r.Intn(3) == 0 {
			a.Lens[1] = a.Lens[0]
		}
	}
	steps := room(a) / 16
	a.Base = pt(16*drawIn(r, -steps, steps), 16*drawIn(r, -steps, steps))
	return a
}

// drawLimits returns an arm with other limits, of which many are at the ends of the range or equal.
func drawLimits(r *rand.Rand, a api.Arm) api.Arm {
	for k := range 3 {
		x, y := drawIn(r, -17, 18), drawIn(r, -17, 18)
		switch r.Intn(6) {
		case 0:
			x = y
		case 1:
			x = -17
		case 2:
			y = 18
		case 3:
			x, y = -17, 18
		}
		a.Low[k], a.High[k] = min(x, y), max(x, y)
	}
	return a
}

// drawJoints returns joints between low and high.
func drawJoints(r *rand.Rand, low, high int) api.Joints {
	return api.Joints{drawIn(r, low, high), drawIn(r, low, high), drawIn(r, low, high)}
}

// distance is H2.
func distance(a, b api.Joints) int {
	sum := 0
	for k := range 3 {
		if a[k] > b[k] {
			sum += a[k] - b[k]
		} else {
			sum += b[k] - a[k]
		}
	}
	return sum
}
