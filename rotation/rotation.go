// Package rotation implements exact planar rotations by 36 rational angles (see shared/doc/01-rotation.md).
package rotation

import "ambidexter/api"

// mostExponent is the largest N of a valid direction.
const mostExponent = 3

// quadrant lists the cosines and sines of the rotations below a quarter turn, multiplied by 65.
var quadrant = [9][2]int{
	{65, 0},
	{63, 16},
	{60, 25},
	{56, 33},
	{52, 39},
	{39, 52},
	{33, 56},
	{25, 60},
	{16, 63},
}

// base is a number of which powers are computed.
type base int

// power returns b to the power n, or 1 if n is negative.
func (b base) power(n int) int {
	p := 1
	for range n {
		p *= int(b)
	}
	return p
}

// denomPower returns the function that computes the powers of 65.
func denomPower() func(n int) int { return base(api.Denom).power }

// wrap returns the number in 0..35 of the rotation with index q.
func wrap(q int) int { return (q%api.Turns + api.Turns) % api.Turns }

// CosSin returns the cosine and the sine of rotation q, multiplied by 65.
func CosSin(q int) (int, int) {
	q = wrap(q)
	row := quadrant[q%len(quadrant)]
	c, s := row[0], row[1]
	for range q / len(quadrant) {
		c, s = -s, c
	}
	return c, s
}

// Inverse returns the index of the inverse rotation, in -17..18.
func Inverse(q int) int {
	q = wrap(q)
	if q < api.Turns/2 {
		return -q
	}
	return api.Turns - q
}

// turn returns the vector (x, y) rotated by q and multiplied by 65.
func turn(x, y, q int) (int, int) {
	c, s := CosSin(q)
	return x*c - y*s, x*s + y*c
}

// Compose returns a direction rotated by q, or the zero Direction.
func Compose(d api.Direction, q int) api.Direction {
	if !ValidDirection(d) || d.N == mostExponent {
		return api.Direction{}
	}
	x, y := turn(d.X, d.Y, q)
	return api.Direction{X: x, Y: y, N: d.N + 1}
}

// Offset returns the vector of n whole units in the direction d.
func Offset(d api.Direction, n int) api.Point {
	// Nothing is specified for an invalid direction, but its exponent might be too large to count to.
	if !ValidDirection(d) {
		return api.Point{}
	}
	power := denomPower()
	scale := power(d.N)
	return api.Point{X: n * api.Unit * d.X / scale, Y: n * api.Unit * d.Y / scale}
}

// RotateQuarter returns a point rotated by a quarter turn.
func RotateQuarter(p api.Point) api.Point { return api.Point{X: -p.Y, Y: p.X} }

// RotatePoint returns a point rotated about the origin, if the result is exact.
func RotatePoint(p api.Point, q int) (api.Point, bool) {
	x, y := turn(p.X, p.Y, q)
	if x%api.Denom != 0 || y%api.Denom != 0 {
		return api.Point{}, false
	}
	return api.Point{X: x / api.Denom, Y: y / api.Denom}, true
}

// ValidDirection reports whether a direction is valid.
func ValidDirection(d api.Direction) bool {
	if d.N < 0 || d.N > mostExponent {
		return false
	}
	power := denomPower()
	length := power(d.N)
	// The squares of larger coordinates might wrap around to the right sum.
	if !within(d.X, length) || !within(d.Y, length) {
		return false
	}
	return d.X*d.X+d.Y*d.Y == power(2*d.N)
}

// within reports whether x lies between -most and most.
func within(x, most int) bool { return -most <= x && x <= most }
