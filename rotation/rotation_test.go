package rotation_test

import (
	"math"
	"sync"
	"testing"

	"ambidexter/api"
	"ambidexter/rotation"
)

// firstTen are rotations 0 to 9 as the chapter lists them; the test derives the others by its rule.
var firstTen = [10][2]int{{65, 0}, {63, 16}, {60, 25}, {56, 33}, {52, 39}, {39, 52}, {33, 56}, {25, 60}, {16, 63}, {0, 65}}

// extremes are numbers at and beyond the borders of what a caller may pass.
var extremes = []int{math.MinInt, math.MinInt + 1, -3601, -201, -200, -37, -36, -35, -19, -18, -17, -1, 0, 1, 17, 18, 19, 35, 36, 37, 200, 201, 3601, math.MaxInt - 1, math.MaxInt}

// allRotations returns the 36 pairs by the chapter's rule.
func allRotations() [36][2]int {
	var l [36][2]int
	for q := range l {
		if q < 9 {
			l[q] = firstTen[q]
		} else {
			l[q] = [2]int{-l[q-9][1], l[q-9][0]}
		}
	}
	return l
}

// floorMod returns q modulo 36 in 0..35.
func floorMod(q int) int {
	r := q % 36
	if r < 0 {
		r += 36
	}
	return r
}

// directions returns every direction of exponent n that n rotations of a unit vector reach, without repetition.
func directions(n int) []api.Direction {
	l := []api.Direction{{X: 1}, {Y: 1}, {X: -1}, {Y: -1}}
	for k := 1; k <= n; k++ {
		seen := map[api.Direction]bool{}
		var next []api.Direction
		for _, d := range l {
			for _, r := range allRotations() {
				e := api.Direction{X: d.X*r[0] - d.Y*r[1], Y: d.X*r[1] + d.Y*r[0], N: k}
				if !seen[e] {
					seen[e] = true
					next = append(next, e)
				}
			}
		}
		l = next
	}
	return l
}

// exactPoints are valid points that every rotation, and every two in a row, map to integer coordinates.
func exactPoints() []api.Point {
	const far = api.Extent * api.Unit
	return []api.Point{{}, {X: 4225}, {Y: -4225}, {X: 8450, Y: -12675}, {X: -api.Unit, Y: 3 * api.Unit}, {X: far, Y: far}, {X: far, Y: -far}, {X: -far, Y: far}, {X: -far, Y: -far}}
}

// P1.1 (A1): the pairs, for indices in and outside 0..35.
func TestCosSin(t *testing.T) {
	all := allRotations()
	for q := -4 * 36; q <= 4*36; q++ {
		want := all[floorMod(q)]
		if c, s := rotation.CosSin(q); c != want[0] || s != want[1] {
			t.Errorf("CosSin(%d) = (%d, %d), want %v", q, c, s, want)
		}
	}
	for _, q := range extremes {
		want := all[floorMod(q)]
		if c, s := rotation.CosSin(q); c != want[0] || s != want[1] {
			t.Errorf("CosSin(%d) = (%d, %d), want %v", q, c, s, want)
		}
	}
	if c, s := rotation.CosSin(10); c != -16 || s != 63 {
		t.Errorf("CosSin(10) = (%d, %d), want (-16, 63)", c, s)
	}
}

// P1.1 (A1): the index of the inverse is in -17..18 and completes a revolution.
func TestInverse(t *testing.T) {
	check := func(q int) {
		p := rotation.Inverse(q)
		if p < -17 || p > 18 {
			t.Errorf("Inverse(%d) = %d is outside -17..18", q, p)
		}
		// The remainders are added, because q + p itself might wrap around.
		if (q%36+p)%36 != 0 {
			t.Errorf("Inverse(%d) = %d: the sum is not a multiple of 36", q, p)
		}
	}
	for q := -4 * 36; q <= 4*36; q++ {
		check(q)
	}
	for _, q := range extremes {
		check(q)
	}
	for q, want := range map[int]int{0: 0, 1: -1, 17: -17, 18: 18, -18: 18, 19: 17, 35: 1, 36: 0, -1: 1, -17: 17, -19: -17} {
		if p := rotation.Inverse(q); p != want {
			t.Errorf("Inverse(%d) = %d, want %d", q, p, want)
		}
	}
}

// P1.1 (A1): exactly the pairs on the circle of radius 65 to the power N are valid.
func TestValidDirectionOfSmallExponents(t *testing.T) {
	for n, most := range map[int]int{0: 3, 1: 70} {
		square := []int{1, 4225}[n]
		for x := -most; x <= most; x++ {
			for y := -most; y <= most; y++ {
				want := x*x+y*y == square
				if got := rotation.ValidDirection(api.Direction{X: x, Y: y, N: n}); got != want {
					t.Errorf("ValidDirection(%d, %d, %d) = %v, want %v", x, y, n, got, want)
				}
			}
		}
	}
}

func TestValidDirectionOfLargeExponents(t *testing.T) {
	for n := 2; n <= 3; n++ {
		for _, d := range directions(n) {
			if !rotation.ValidDirection(d) {
				t.Errorf("ValidDirection(%v) = false", d)
			}
			for _, e := range []api.Direction{{X: d.X + 1, Y: d.Y, N: n}, {X: d.X, Y: d.Y - 1, N: n}, {X: d.X, Y: d.Y, N: n - 1}, {X: d.X, Y: d.Y, N: n + 1}} {
				if rotation.ValidDirection(e) {
					t.Errorf("ValidDirection(%v) = true", e)
				}
			}
		}
	}
}

// invalidDirections include sums of squares that are right only modulo 2 to the power 64.
var invalidDirections = []api.Direction{
	{},
	{N: 1},
	{N: 3},
	{X: 2},
	{X: 1, Y: 1},
	{X: 65},
	{X: 1, N: 1},
	{X: 65, N: 2},
	{X: 1, N: -1},
	{X: 65, N: -1},
	{X: 65 * 65 * 65 * 65, N: 4},
	{X: 1, N: math.MinInt},
	{X: 1, N: math.MaxInt},
	{X: 1 << 32, Y: 1},
	{X: 1, Y: -1 << 32},
	{X: math.MinInt, Y: 1},
	{X: math.MinInt, Y: 65, N: 1},
	{X: -4225, Y: math.MinInt, N: 2},
	{X: 65 * 65 * 65, Y: 1 << 32, N: 3},
	{X: math.MaxInt, Y: math.MaxInt, N: 3},
	{X: math.MinInt, Y: math.MinInt, N: math.MinInt},
}

func TestInvalidDirections(t *testing.T) {
	for _, d := range invalidDirections {
		if rotation.ValidDirection(d) {
			t.Errorf("ValidDirection(%v) = true", d)
		}
	}
}

// P1.1 (A2): a valid direction is rotated, and its exponent grows by one.
func TestCompose(t *testing.T) {
	all := allRotations()
	for n := 0; n <= 2; n++ {
		for _, d := range directions(n) {
			for q := -40; q <= 40; q++ {
				r := all[floorMod(q)]
				want := api.Direction{X: d.X*r[0] - d.Y*r[1], Y: d.X*r[1] + d.Y*r[0], N: n + 1}
				if got := rotation.Compose(d, q); got != want {
					t.Fatalf("Compose(%v, %d) = %v, want %v", d, q, got, want)
				}
			}
		}
	}
}

// P1.1 (A2) and P2: no direction of exponent 3 and no invalid one is rotated.
func TestComposeWithoutResult(t *testing.T) {
	for _, d := range directions(3) {
		for q := range 36 {
			if got := rotation.Compose(d, q); got != (api.Direction{}) {
				t.Fatalf("Compose(%v, %d) = %v, want the zero Direction", d, q, got)
			}
		}
	}
	for _, d := range invalidDirections {
		for _, q := range extremes {
			if got := rotation.Compose(d, q); got != (api.Direction{}) {
				t.Errorf("Compose(%v, %d) = %v, want the zero Direction", d, q, got)
			}
		}
	}
}

// P1.1 (A2): an offset times the power of 65 is n units times the direction, so both divisions are exact.
func TestOffset(t *testing.T) {
	scale := 1
	for n := 0; n <= 3; n++ {
		for _, d := range directions(n) {
			for k := -200; k <= 200; k++ {
				p := rotation.Offset(d, k)
				if p.X*scale != k*api.Unit*d.X || p.Y*scale != k*api.Unit*d.Y {
					t.Fatalf("Offset(%v, %d) = %v", d, k, p)
				}
			}
		}
		scale *= 65
	}
}

func TestOffsetOfUnitVectors(t *testing.T) {
	for _, x := range []struct {
		d    api.Direction
		n    int
		want api.Point
	}{
		{api.Direction{X: 1}, 1, api.Point{X: 4394000}},
		{api.Direction{Y: 1}, 2, api.Point{Y: 8788000}},
		{api.Direction{X: -1}, 200, api.Point{X: -878800000}},
		{api.Direction{Y: -1}, -200, api.Point{Y: 878800000}},
		{api.Direction{X: -16, Y: 63, N: 1}, 3, api.Point{X: -3244800, Y: 12776400}},
		{api.Direction{X: 16, Y: 63, N: 1}, 0, api.Point{}},
	} {
		if got := rotation.Offset(x.d, x.n); got != x.want {
			t.Errorf("Offset(%v, %d) = %v, want %v", x.d, x.n, got, x.want)
		}
	}
}

// P1.1 (A3): a quarter turn.
func TestRotateQuarter(t *testing.T) {
	for _, p := range append(exactPoints(), api.Point{X: 1}, api.Point{Y: 1}, api.Point{X: 3, Y: 4}, api.Point{X: -7, Y: 11}) {
		if got, want := rotation.RotateQuarter(p), (api.Point{X: -p.Y, Y: p.X}); got != want {
			t.Errorf("RotateQuarter(%v) = %v, want %v", p, got, want)
		}
	}
}

// P1.1 (A3) and P2: a point is rotated if both divisions are exact; otherwise the result is zero.
func TestRotatePointNearOrigin(t *testing.T) {
	all := allRotations()
	exact, inexact := 0, 0
	for q := -40; q <= 40; q++ {
		c, s := all[floorMod(q)][0], all[floorMod(q)][1]
		for x := -66; x <= 66; x++ {
			for y := -66; y <= 66; y++ {
				u, v := x*c-y*s, x*s+y*c
				want, is := api.Point{}, u%65 == 0 && v%65 == 0
				if is {
					want = api.Point{X: u / 65, Y: v / 65}
					exact++
				} else {
					inexact++
				}
				if got, ok := rotation.RotatePoint(api.Point{X: x, Y: y}, q); got != want || ok != is {
					t.Fatalf("RotatePoint((%d, %d), %d) = %v, %v, want %v, %v", x, y, q, got, ok, want, is)
				}
			}
		}
	}
	if exact == 0 || inexact == 0 {
		t.Errorf("%d exact and %d inexact rotations were tried", exact, inexact)
	}
}

func TestRotatePointAtTheBorder(t *testing.T) {
	all := allRotations()
	for _, p := range exactPoints() {
		for _, q := range extremes {
			c, s := all[floorMod(q)][0], all[floorMod(q)][1]
			got, ok := rotation.RotatePoint(p, q)
			if !ok || got.X*65 != p.X*c-p.Y*s || got.Y*65 != p.X*s+p.Y*c {
				t.Errorf("RotatePoint(%v, %d) = %v, %v", p, q, got, ok)
			}
		}
	}
	const far = api.Extent * api.Unit
	if got, ok := rotation.RotatePoint(api.Point{X: far - 1, Y: far}, 1); ok || got != (api.Point{}) {
		t.Errorf("an inexact rotation returned %v, %v", got, ok)
	}
	if got, ok := rotation.RotatePoint(api.Point{X: far, Y: 1 - far}, -1); ok || got != (api.Point{}) {
		t.Errorf("an inexact rotation returned %v, %v", got, ok)
	}
}

func TestRotatePointExamples(t *testing.T) {
	if p, ok := rotation.RotatePoint(api.Point{X: 65, Y: 130}, 1); !ok || p != (api.Point{X: 31, Y: 142}) {
		t.Errorf("got %v, %v, want (31, 142), true", p, ok)
	}
	p := api.Point{X: 3, Y: 4}
	for quarters := range 8 {
		if got, ok := rotation.RotatePoint(api.Point{X: 3, Y: 4}, 9*quarters); !ok || got != p {
			t.Errorf("after %d quarter turns: %v, %v, want %v, true", quarters, got, ok, p)
		}
		p = rotation.RotateQuarter(p)
	}
}

// P1.2: every rotation has length 65, is to the left of its predecessor and near to it, and the steps wind once around.
func TestOneRevolution(t *testing.T) {
	seen := map[[2]int]bool{}
	crossings := 0
	for q := range 36 {
		c, s := rotation.CosSin(q)
		u, v := rotation.CosSin(q + 1)
		if c*c+s*s != 4225 {
			t.Errorf("rotation %d has the square %d", q, c*c+s*s)
		}
		if c*v-s*u <= 0 {
			t.Errorf("rotation %d is not to the left of rotation %d", q+1, q)
		}
		if (c*u+s*v)*25 < 4225*24 {
			t.Errorf("rotations %d and %d are too far apart", q, q+1)
		}
		if s < 0 && v >= 0 {
			crossings++
		}
		seen[[2]int{c, s}] = true
	}
	if len(seen) != 36 || crossings != 1 {
		t.Errorf("%d different rotations wind around %d times", len(seen), crossings)
	}
}

// P1.3: rotations preserve lengths.
func TestLengthsArePreserved(t *testing.T) {
	for n := 0; n <= 2; n++ {
		for _, d := range directions(n) {
			for q := range 36 {
				e := rotation.Compose(d, q)
				if e.X*e.X+e.Y*e.Y != 4225*(d.X*d.X+d.Y*d.Y) || !rotation.ValidDirection(e) {
					t.Fatalf("Compose(%v, %d) = %v", d, q, e)
				}
			}
		}
	}
	for _, p := range exactPoints() {
		for q := range 36 {
			r, ok := rotation.RotatePoint(p, q)
			if !ok || r.X*r.X+r.Y*r.Y != p.X*p.X+p.Y*p.Y {
				t.Errorf("RotatePoint(%v, %d) = %v, %v", p, q, r, ok)
			}
		}
	}
}

func TestOffsetsHaveWholeLengths(t *testing.T) {
	for n := 0; n <= 3; n++ {
		for _, d := range directions(n) {
			for _, k := range []int{-200, -1, 1, 40, 200} {
				p := rotation.Offset(d, k)
				if p.X*p.X+p.Y*p.Y != k*api.Unit*k*api.Unit {
					t.Errorf("Offset(%v, %d) = %v", d, k, p)
				}
			}
		}
	}
}

// rotateTwice returns p rotated by q and then by r.
func rotateTwice(t *testing.T, p api.Point, q, r int) api.Point {
	t.Helper()
	a, ok := rotation.RotatePoint(p, q)
	if !ok {
		t.Fatalf("RotatePoint(%v, %d) failed", p, q)
	}
	b, ok := rotation.RotatePoint(a, r)
	if !ok {
		t.Fatalf("RotatePoint(%v, %d) failed", a, r)
	}
	return b
}

// P1.3: two rotations may be exchanged.
func TestRotationsCommute(t *testing.T) {
	for q := range 36 {
		for r := range 36 {
			for n := 0; n <= 1; n++ {
				for _, d := range directions(n) {
					a, b := rotation.Compose(rotation.Compose(d, q), r), rotation.Compose(rotation.Compose(d, r), q)
					if a != b || a.N != n+2 {
						t.Fatalf("%v rotated by %d and %d: %v and %v", d, q, r, a, b)
					}
				}
			}
			for _, p := range []api.Point{{X: 4225}, {X: 8450, Y: -12675}, {X: -api.Unit, Y: 3 * api.Unit}} {
				if a, b := rotateTwice(t, p, q, r), rotateTwice(t, p, r, q); a != b {
					t.Fatalf("%v rotated by %d and %d: %v and %v", p, q, r, a, b)
				}
			}
		}
	}
}

// P1.3: a rotation followed by its opposite restores a direction whose N is at most 1, up to that N.
func TestOppositeRestores(t *testing.T) {
	for q := -72; q <= 72; q++ {
		for n := 0; n <= 1; n++ {
			for _, d := range directions(n) {
				e := rotation.Compose(rotation.Compose(d, q), rotation.Inverse(q))
				if e != (api.Direction{X: 4225 * d.X, Y: 4225 * d.Y, N: n + 2}) {
					t.Fatalf("%v rotated by %d and back is %v", d, q, e)
				}
			}
		}
		for _, p := range []api.Point{{X: 65, Y: 130}, {X: -4225, Y: 65}, {X: api.Unit, Y: -7 * api.Unit}} {
			if r := rotateTwice(t, p, q, rotation.Inverse(q)); r != p {
				t.Fatalf("%v rotated by %d and back is %v", p, q, r)
			}
		}
	}
}

// P1.3: the product of two rotations is in general not one of the 36.
func TestExponentTwoIsLarger(t *testing.T) {
	seen := map[api.Direction]bool{}
	for q := range 36 {
		for r := range 36 {
			seen[rotation.Compose(rotation.Compose(api.Direction{X: 1}, q), r)] = true
		}
	}
	if len(seen) != len(directions(2)) || len(seen) <= 36 {
		t.Errorf("%d directions of exponent 2", len(seen))
	}
}

// results collects what all functions return for one set of arguments.
type results struct {
	c, s, inverse     int
	valid, exact      bool
	composed          api.Direction
	quarter, at, away api.Point
}

// callAll calls every function of the package.
func callAll(d api.Direction, p api.Point, q int) results {
	var r results
	r.c, r.s = rotation.CosSin(q)
	r.inverse = rotation.Inverse(q)
	r.valid = rotation.ValidDirection(d)
	r.composed = rotation.Compose(d, q)
	r.quarter = rotation.RotateQuarter(p)
	r.at, r.exact = rotation.RotatePoint(p, q)
	r.away = rotation.Offset(d, q)
	return r
}

// P1: every function terminates and does not panic, for any arguments.
func TestEveryCallReturns(t *testing.T) {
	for _, x := range extremes {
		for _, y := range extremes {
			for _, q := range extremes {
				for _, n := range []int{math.MinInt, -1, 0, 1, 2, 3, 4, 64, math.MaxInt} {
					r := callAll(api.Direction{X: x, Y: y, N: n}, api.Point{X: x, Y: y}, q)
					if !r.exact && r.at != (api.Point{}) {
						t.Fatalf("RotatePoint((%d, %d), %d) = %v, false", x, y, q, r.at)
					}
					if !r.valid && r.composed != (api.Direction{}) {
						t.Fatalf("Compose((%d, %d, %d), %d) = %v", x, y, n, q, r.composed)
					}
				}
			}
		}
	}
}

// P3: the results depend on the arguments only, not on earlier calls or on others at the same time.
func TestResultsDependOnArgumentsOnly(t *testing.T) {
	l := append(directions(2), invalidDirections...)
	call := func(i, q int) results {
		return callAll(l[i], api.Point{X: 65 * i, Y: 130 + i}, q)
	}
	first := make([][36]results, len(l))
	for i := range l {
		for q := range 36 {
			first[i][q] = call(i, q)
		}
	}
	var g sync.WaitGroup
	for range 4 {
		g.Go(func() {
			for i := len(l) - 1; i >= 0; i-- {
				for q := 35; q >= 0; q-- {
					if again := call(i, q); again != first[i][q] {
						t.Errorf("%v, %d: %v, then %v", l[i], q, first[i][q], again)
					}
				}
			}
		})
	}
	g.Wait()
}
