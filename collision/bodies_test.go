package collision_test

import (
	"math/rand"
	"reflect"
	"slices"
	"testing"

	"ambidexter/api"
	"ambidexter/arm"
	"ambidexter/cell"
	"ambidexter/collision"
	"ambidexter/polygon"
)

// example is the cell of the tests of layer 9.
const example = `arm -87880000 0 10 8 4 1 -17 -17 -17 18 18 18 9 0 0
arm 87880000 0 10 8 4 1 -17 -17 -17 18 18 18 9 0 0
fixture -4394000 -4394000 4394000 -4394000 4394000 4394000 -4394000 4394000
place left -87880000 52728000 274625 0
place mid 0 52728000 0 274625
part cap mid 0 0 2 0 2 1 0 1
belt 30 left mid
limits 6 2 1
loaded 4 2 1
zone -131820000 -131820000 -109850000 -131820000 -109850000 -87880000
guard 2 1
`

// checkBodies compares Bodies with N1, and checks what P14.2 says.
func checkBodies(t *testing.T, what string, c api.Cell, w api.State) {
	t.Helper()
	checkState(t, what, c, w, true)
	got, want := collision.Bodies(c, w), bodiesOf(c, w)
	if !reflect.DeepEqual(got, want) {
		t.Errorf("%s: Bodies in %v = %v, want %v", what, w, got, want)
	}
	held, placed := 0, 0
	for _, part := range w.Held {
		held += min(part+1, 1)
	}
	for _, place := range w.Where {
		placed += min(place+1, 1)
	}
	if len(got) != 6+held+placed+len(c.Fixtures) {
		t.Errorf("%s: %d bodies in %v", what, len(got), w)
	}
	for _, b := range got {
		if !polygon.Valid(b.Area) {
			t.Errorf("%s: %v is not valid", what, b)
		}
	}
}

// checkLabels checks which bodies there are, and in which order.
func checkLabels(t *testing.T, c api.Cell, w api.State, want string) {
	t.Helper()
	checkBodies(t, want, c, w)
	if got := labels(collision.Bodies(c, w)); got != want {
		t.Errorf("the bodies in %v are %s, want %s", w, got, want)
	}
}

// checkArea checks where the only body with a label is.
func checkArea(t *testing.T, c api.Cell, w api.State, name string, want api.Polygon) {
	t.Helper()
	checkBodies(t, name, c, w)
	l := slices.DeleteFunc(collision.Bodies(c, w), func(b api.Body) bool { return label(b) != name })
	if len(l) != 1 || !slices.Equal(l[0].Area, want) {
		t.Errorf("%s is %v, want %v", name, l, want)
	}
}

// inUnits returns the polygon whose corners have the coordinates x, y, x, y and so on, in units.
func inUnits(coordinates ...int) api.Polygon {
	return mapped(poly(coordinates...), func(x api.Point) api.Point { return units(x.X, x.Y) })
}

// P14.1 (N1): the chapter's example.
func TestExample(t *testing.T) {
	c := described(t, example)
	w := cell.InitialState(c)
	want := []api.Body{
		{Kind: api.BodyLink, I: 0, J: 0, Area: inUnits(-19, 0, -19, 10, -21, 10, -21, 0)},
		{Kind: api.BodyLink, I: 0, J: 1, Area: inUnits(-19, 10, -19, 18, -21, 18, -21, 10)},
		{Kind: api.BodyLink, I: 0, J: 2, Area: inUnits(-19, 18, -19, 22, -21, 22, -21, 18)},
		{Kind: api.BodyLink, I: 1, J: 0, Area: inUnits(21, 0, 21, 10, 19, 10, 19, 0)},
		{Kind: api.BodyLink, I: 1, J: 1, Area: inUnits(21, 10, 21, 18, 19, 18, 19, 10)},
		{Kind: api.BodyLink, I: 1, J: 2, Area: inUnits(21, 18, 21, 22, 19, 22, 19, 18)},
		{Kind: api.BodyResting, I: 0, Area: inUnits(0, 12, 0, 14, -1, 14, -1, 12)},
		{Kind: api.BodyFixture, I: 0, Area: inUnits(-1, -1, 1, -1, 1, 1, -1, 1)},
	}
	if got := collision.Bodies(c, w); !reflect.DeepEqual(got, want) {
		t.Errorf("Bodies = %v", got)
	}
	checkBodies(t, "the example", c, w)
	if l := collision.Collisions(c, w); len(l) > 0 || !collision.IsFree(c, w) {
		t.Errorf("Collisions = %v", l)
	}
	checkChecked(t, c, w, `L00: L02 L10 L11 L12 R0 F0
L01: L10 L11 L12 R0 F0
L02: L10 L11 L12 F0
L10: L12 R0 F0
L11: R0 F0
L12: F0
`)
}

// P14.1 (N1), P14.2: no, one and two held parts, parts at places in another order than their own, lost parts, and no, one and several fixtures.
func TestOrderOfBodies(t *testing.T) {
	c := described(t, bench)
	w := cell.InitialState(c)
	checkLabels(t, c, w, "L00 L01 L02 L10 L11 L12 R0 R1 R2 F0 F1")
	swapped := api.State{Q: w.Q, Held: w.Held, Where: []int{west, south, north}}
	checkLabels(t, c, swapped, "L00 L01 L02 L10 L11 L12 R0 R1 R2 F0 F1")
	checkLabels(t, c, resting(w, bolt, -1), "L00 L01 L02 L10 L11 L12 R0 R2 F0 F1")
	checkLabels(t, c, resting(resting(w, bolt, -1), nut, -1), "L00 L01 L02 L10 L11 L12 R2 F0 F1")
	checkLabels(t, c, holding(w, 0, nut), "L00 L01 L02 L10 L11 L12 C0 R1 R2 F0 F1")
	checkLabels(t, c, holding(w, 0, capPart), "L00 L01 L02 L10 L11 L12 C0 R0 R1 F0 F1")
	checkLabels(t, c, holding(w, 1, nut), "L00 L01 L02 L10 L11 L12 C1 R1 R2 F0 F1")
	checkLabels(t, c, holding(holding(w, 1, nut), 0, bolt), "L00 L01 L02 L10 L11 L12 C0 C1 R2 F0 F1")
	checkLabels(t, c, holding(holding(w, 0, nut), 1, bolt), "L00 L01 L02 L10 L11 L12 C0 C1 R2 F0 F1")
	checkLabels(t, c, resting(holding(holding(w, 0, nut), 1, bolt), capPart, -1), "L00 L01 L02 L10 L11 L12 C0 C1 F0 F1")
	checkLabels(t, c, resting(resting(resting(w, nut, -1), bolt, -1), capPart, -1), "L00 L01 L02 L10 L11 L12 F0 F1")
	c.Fixtures = c.Fixtures[:1]
	checkLabels(t, c, w, "L00 L01 L02 L10 L11 L12 R0 R1 R2 F0")
	c.Fixtures = nil
	checkLabels(t, c, w, "L00 L01 L02 L10 L11 L12 R0 R1 R2")
	c.Places, c.Parts, c.Belt = nil, nil, nil
	checkLabels(t, c, api.State{Q: w.Q, Held: w.Held}, "L00 L01 L02 L10 L11 L12")
	for i := range 16 {
		c.Fixtures = append(c.Fixtures, moved(inUnits(0, 0, 1, 0, 0, 1), units(5*(i%4), 5*(i/4))))
	}
	checkLabels(t, c, api.State{Q: w.Q, Held: w.Held}, "L00 L01 L02 L10 L11 L12 F0 F1 F2 F3 F4 F5 F6 F7 F8 F9 F10 F11 F12 F13 F14 F15")
	c.Fixtures[3], c.Fixtures[7] = c.Fixtures[7], c.Fixtures[3]
	checkBodies(t, "fixtures in another order", c, api.State{Q: w.Q, Held: w.Held})
}

// P14.1 (N1): the positions of carried parts in several directions, some of which lie between the axes.
func TestCarriedParts(t *testing.T) {
	c := described(t, bench)
	w := holding(cell.InitialState(c), 0, nut)
	checkArea(t, c, w, "C0", inUnits(-9, 21, -9, 22, -12, 22, -12, 21))
	checkArea(t, c, standing(w, 0, api.Joints{0, 0, 0}), "C0", inUnits(11, -1, 12, -1, 12, 2, 11, 2))
	checkArea(t, c, standing(w, 0, api.Joints{18, 0, 0}), "C0", inUnits(-31, 1, -32, 1, -32, -2, -31, -2))
	checkArea(t, c, standing(w, 0, api.Joints{0, -9, 0}), "C0", inUnits(-1, -11, -1, -12, 2, -12, 2, -11))
	checkArea(t, c, standing(w, 0, api.Joints{9, -9, -9}), "C0", inUnits(-6, 4, -6, 3, -3, 3, -3, 4))
	checkArea(t, c, standing(w, 0, api.Joints{9, 0, 9}), "C0", inUnits(-16, 16, -17, 16, -17, 13, -16, 13))
	// With the rotation (60, 25), the tip is at (37180000, 33800000), and a unit leads to (4056000, 1690000).
	checkArea(t, c, standing(w, 0, api.Joints{2, 0, 0}), "C0", poly(42926000, 31434000, 46982000, 33124000, 41912000, 45292000, 37856000, 43602000))
	w = holding(holding(cell.InitialState(c), 1, bolt), 0, nut)
	checkArea(t, c, w, "C1", inUnits(11, 19, 11, 21, 9, 20))
	checkArea(t, c, standing(w, 1, api.Joints{18, -9, 9}), "C1", inUnits(-4, 6, -6, 6, -5, 4))
	checkArea(t, c, standing(w, 1, api.Joints{18, -9, 9}), "C0", inUnits(-9, 21, -9, 22, -12, 22, -12, 21))
}

// P14.1 (N1): the positions of resting parts in several directions, of which those between the axes need not be rotations of a joint.
func TestRestingParts(t *testing.T) {
	c := described(t, bench)
	w := cell.InitialState(c)
	checkArea(t, c, w, "R0", inUnits(-1, -11, -1, -12, 2, -12, 2, -11))
	checkArea(t, c, w, "R1", inUnits(1, 9, 1, 11, -1, 10))
	checkArea(t, c, w, "R2", inUnits(-30, 0, -33, 0, -30, -2))
	other := api.State{Q: w.Q, Held: w.Held, Where: []int{east, west, north}}
	checkArea(t, c, other, "R0", inUnits(31, -1, 32, -1, 32, 2, 31, 2))
	checkArea(t, c, other, "R1", inUnits(-29, 1, -31, 1, -30, -1))
	checkArea(t, c, other, "R2", inUnits(0, 10, 0, 13, -2, 10))
	// A unit in this direction leads to (2262400, 3766800).
	c.Places[east].At, c.Places[east].Dir = pt(-160, 32), api.Direction{X: 141400, Y: 235425, N: 3}
	checkArea(t, c, other, "R0", poly(6029040, 1504432, 8291440, 5271232, -3008960, 12058432, -5271360, 8291632))
}

// P14.1 (N1), P14.2: all values of each joint, with a part in each hand.
func TestBodiesForAllJoints(t *testing.T) {
	c := described(t, bench)
	w := holding(holding(cell.InitialState(c), 0, nut), 1, capPart)
	for n := range 6 * 36 {
		k, joint := n%2, n/2%3
		x := cloned(w)
		x.Q[k] = api.Joints{1, -3, 7}
		x.Q[k][joint] = n/6 - 17
		checkBodies(t, "a joint value", c, x)
		area := collision.Bodies(c, x)[6+k].Area
		at := arm.JointPoints(c.Arms[k], x.Q[k])[3]
		d := arm.LinkDirections(c.Arms[k], x.Q[k])[2]
		if want := cell.PartAt(c.Parts[[]int{nut, capPart}[k]], at, d); !slices.Equal(area, want) {
			t.Errorf("the part of arm %d in %v is %v, want %v", k, x, area, want)
		}
	}
}

// P14.1 (N1), P14.2: random states of random cells.
func TestBodiesRandom(t *testing.T) {
	r := rand.New(rand.NewSource(15))
	for range 4000 {
		c, w := drawScene(r)
		checkBodies(t, "random", c, w)
	}
}
