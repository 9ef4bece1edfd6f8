package collision_test

import (
	"fmt"
	"math"
	"math/rand"
	"reflect"
	"slices"
	"strings"
	"sync"
	"testing"

	"ambidexter/api"
	"ambidexter/cell"
	"ambidexter/collision"
	"ambidexter/intersect"
	"ambidexter/polygon"
)

// checkPairs compares CheckedPairs, Collisions and IsFree with N2 and N3.
func checkPairs(t *testing.T, what string, c api.Cell, w api.State) {
	t.Helper()
	checkState(t, what, c, w, true)
	if got, want := collision.CheckedPairs(c, w), checkedOf(c, w); !samePairs(got, want) {
		t.Errorf("%s: CheckedPairs in %v = %v, want %v", what, w, pairLabels(got), pairLabels(want))
	}
	got, want := collision.Collisions(c, w), touchingOf(c, w)
	if !samePairs(got, want) {
		t.Errorf("%s: Collisions in %v = %v, want %v", what, w, pairLabels(got), pairLabels(want))
	}
	if collision.IsFree(c, w) != (len(want) == 0) {
		t.Errorf("%s: IsFree in %v is %v with the collisions %v", what, w, len(want) > 0, pairLabels(want))
	}
}

// samePairs reports whether two lists of pairs are equal.
func samePairs(a, b []api.BodyPair) bool {
	return slices.EqualFunc(a, b, func(p, q api.BodyPair) bool { return reflect.DeepEqual(p, q) })
}

// checkChecked checks which pairs are forbidden: each line lists the second bodies of the pairs with the same first one.
func checkChecked(t *testing.T, c api.Cell, w api.State, want string) {
	t.Helper()
	checkPairs(t, "a list of pairs", c, w)
	text, first := "", ""
	for _, p := range collision.CheckedPairs(c, w) {
		if label(p.A) != first {
			first = label(p.A)
			text += "\n" + first + ":"
		}
		text += " " + label(p.B)
	}
	if got := strings.TrimPrefix(text, "\n") + "\n"; got != want {
		t.Errorf("the pairs are\n%swant\n%s", got, want)
	}
}

// checkTouching checks which pairs collide.
func checkTouching(t *testing.T, what string, c api.Cell, w api.State, want ...string) {
	t.Helper()
	checkPairs(t, what, c, w)
	if got := pairLabels(collision.Collisions(c, w)); !slices.Equal(got, want) && len(got)+len(want) > 0 {
		t.Errorf("%s: the collisions are %v, want %v", what, got, want)
	}
}

// P14.1 (N2, N3): all forbidden pairs, in their order, with two carried parts, resting and lost parts and two fixtures.
func TestCheckedPairs(t *testing.T) {
	c := described(t, bench)
	for _, name := range []string{"lost", "last"} {
		c.Parts = append(c.Parts, api.Part{Name: name, Shape: c.Parts[bolt].Shape})
	}
	c.Parts[3].Place, c.Parts[4].Place = east, 4
	c.Places = append(c.Places, api.Place{Name: "more", At: units(50, 50), Dir: c.Places[east].Dir})
	w := api.State{Q: c.Home, Held: [2]int{2, 0}, Where: []int{-1, east, -1, -1, north}}
	checkChecked(t, c, w, `L00: L02 L10 L11 L12 C0 C1 R1 R4 F0 F1
L01: L10 L11 L12 C1 R1 R4 F0 F1
L02: L10 L11 L12 C1 F0 F1
L10: L12 C0 C1 R1 R4 F0 F1
L11: C0 R1 R4 F0 F1
L12: C0 F0 F1
C0: C1 R1 R4 F0 F1
C1: R1 R4 F0 F1
`)
	w = api.State{Q: c.Home, Held: [2]int{-1, 1}, Where: []int{-1, -1, 4, north, -1}}
	checkChecked(t, c, w, `L00: L02 L10 L11 L12 C1 R2 R3 F0 F1
L01: L10 L11 L12 C1 R2 R3 F0 F1
L02: L10 L11 L12 C1 F0 F1
L10: L12 C1 R2 R3 F0 F1
L11: R2 R3 F0 F1
L12: F0 F1
C1: R2 R3 F0 F1
`)
	c.Fixtures = nil
	w = api.State{Q: c.Home, Held: [2]int{4, -1}, Where: []int{-1, -1, -1, -1, -1}}
	checkChecked(t, c, w, `L00: L02 L10 L11 L12 C0
L01: L10 L11 L12
L02: L10 L11 L12
L10: L12 C0
L11: C0
L12: C0
`)
	w.Held[0] = -1
	checkChecked(t, c, w, `L00: L02 L10 L11 L12
L01: L10 L11 L12
L02: L10 L11 L12
L10: L12
`)
}

// yard is a cell with two arms of three links of 10 units in opposite corners, without any other bodies.
func yard() api.Cell {
	a := api.Arm{Lens: [3]int{10, 10, 10}, Wide: 1, Low: api.Joints{-17, -17, -17}, High: api.Joints{18, 18, 18}}
	l := api.Limits{V: 1, A: 1, J: 1}
	c := api.Cell{Arms: [2]api.Arm{a, a}, Limits: l, Loaded: l, Slow: 1}
	c.Arms[0].Base, c.Arms[1].Base = units(-40, -40), units(40, 40)
	c.Home = [2]api.Joints{{9}, {-9}}
	return c
}

// part appends a part with a place for it, with the gripper to the right there.
func part(c api.Cell, shape api.Polygon, at api.Point) api.Cell {
	i := len(c.Parts)
	c.Places = append(slices.Clone(c.Places), api.Place{Name: fmt.Sprintf("at%d", i), At: at, Dir: api.Direction{X: 274625, N: 3}})
	c.Parts = append(slices.Clone(c.Parts), api.Part{Name: fmt.Sprintf("part%d", i), Shape: shape, Place: i})
	return c
}

// fixture appends a fixture.
func fixture(c api.Cell, area api.Polygon) api.Cell {
	c.Fixtures = append(slices.Clone(c.Fixtures), area)
	return c
}

// swapped returns the cell and the state with both arms exchanged, together with the parts that they hold.
func swapped(c api.Cell, w api.State) (api.Cell, api.State) {
	c.Arms[0], c.Arms[1] = c.Arms[1], c.Arms[0]
	c.Home[0], c.Home[1] = c.Home[1], c.Home[0]
	w = cloned(w)
	w.Q[0], w.Q[1] = w.Q[1], w.Q[0]
	w.Held[0], w.Held[1] = w.Held[1], w.Held[0]
	return c, w
}

// swappedName is the label that a body has behind an exchange of the arms.
func swappedName(name string) string {
	if name[0] == 'L' || name[0] == 'C' {
		return name[:1] + string('1'-name[1]+'0') + name[2:]
	}
	return name
}

// checkOnly checks that a pair is the only one that collides, and that it is if both arms are exchanged.
func checkOnly(t *testing.T, c api.Cell, w api.State, a, b string) {
	t.Helper()
	checkTouching(t, a+"-"+b, c, w, a+"-"+b)
	c, w = swapped(c, w)
	a, b = swappedName(a), swappedName(b)
	if a[0] == b[0] && a > b {
		a, b = b, a
	}
	if a[0] == 'C' && b[0] == 'L' {
		a, b = b, a
	}
	checkTouching(t, a+"-"+b, c, w, a+"-"+b)
}

// checkNone checks that no pair collides, also if both arms are exchanged.
func checkNone(t *testing.T, what string, c api.Cell, w api.State) {
	t.Helper()
	checkTouching(t, what, c, w)
	c, w = swapped(c, w)
	checkTouching(t, what+", exchanged", c, w)
}

// The directions of an arm of which only the first joint is turned.
var (
	toTheRight = api.Joints{0, 0, 0}
	upwards    = api.Joints{9, 0, 0}
	toTheLeft  = api.Joints{18, 0, 0}
)

// P14.1 (N2), P14.4: each link of one arm crosses each link of the other one.
func TestLinksOfDifferentArms(t *testing.T) {
	for i := range 3 {
		for j := range 3 {
			c := yard()
			c.Arms[0].Base, c.Arms[1].Base = units(-20, 0), units(10*i-15, -10*j-5)
			w := standing(standing(cell.InitialState(c), 0, toTheRight), 1, upwards)
			checkOnly(t, c, w, fmt.Sprintf("L0%d", i), fmt.Sprintf("L1%d", j))
		}
	}
}

// P14.1 (N2): links of one arm: links 0 and 2 must not touch, and neighbours may, also if they lie on each other.
func TestLinksOfOneArm(t *testing.T) {
	c := yard()
	w := cell.InitialState(c)
	checkNone(t, "at home", c, w)
	for k := range 2 {
		for n := range 36 {
			if q := n - 17; q != 18 {
				checkNone(t, "neighbours", c, standing(w, k, api.Joints{q, 0, 0}))
				checkNone(t, "neighbours", c, standing(w, k, api.Joints{0, min(max(q, -12), 12), 0}))
			}
		}
	}
	c.Arms[0].Lens = [3]int{10, 10, 5}
	checkNone(t, "link 2 on link 1", c, standing(w, 0, api.Joints{0, 9, 18}))
	c.Arms[0].Lens = [3]int{3, 10, 5}
	checkNone(t, "link 1 on link 0", c, standing(w, 0, api.Joints{9, 18, -9}))
	c.Arms[0].Lens = [3]int{10, 1, 5}
	checkOnly(t, c, standing(w, 0, api.Joints{9, -9, -9}), "L00", "L02")
	c.Arms[0].Lens = [3]int{10, 3, 5}
	checkNone(t, "link 2 beside link 0", c, standing(w, 0, api.Joints{9, -9, -9}))
	checkOnly(t, c, standing(w, 0, api.Joints{9, 18, 0}), "L00", "L02")
	c.Arms[0].Lens = [3]int{10, 2, 5}
	checkOnly(t, c, standing(w, 0, api.Joints{9, -9, -9}), "L00", "L02") // along an edge
}

// P14.1 (N2): each link of each arm with a fixture.
func TestLinksAndFixtures(t *testing.T) {
	small := inUnits(0, 0, 1, 0, 0, 1)
	for link := range 3 {
		c := fixture(fixture(yard(), small), moved(small, units(-40, -35+10*link)))
		checkOnly(t, c, cell.InitialState(c), fmt.Sprintf("L0%d", link), "F1")
	}
}

// P14.1 (N2): links 0 and 1 of each arm must not touch a resting part, link 2 may.
func TestLinksAndRestingParts(t *testing.T) {
	small := poly(0, 0, 1, 0, 0, 1)
	for link := range 3 {
		c := part(part(yard(), small, units(0, 0)), small, units(-40, -35+10*link))
		w := cell.InitialState(c)
		if link == 2 {
			checkNone(t, "link 2 and a resting part", c, w)
		} else {
			checkOnly(t, c, w, fmt.Sprintf("L0%d", link), "R1")
		}
		checkNone(t, "a link and a lost part", c, resting(w, 1, -1))
	}
}

// loaded is yard with a part in the hand of arm 0, with which it points to the right along the X axis. The part begins 2 units before the tip, which is at (10, 0), and is 2 units wide and long.
func loaded() (api.Cell, api.State) {
	c := yard()
	c.Arms[0].Base = units(-20, 0)
	c = part(c, poly(2, -1, 4, -1, 4, 1, 2, 1), units(70, -70))
	return c, standing(holding(cell.InitialState(c), 0, 0), 0, toTheRight)
}

// P14.1 (N2): a carried part with a fixture and with a resting part.
func TestCarriedPartsAndObstacles(t *testing.T) {
	c, w := loaded()
	checkNone(t, "nothing else", c, w)
	checkOnly(t, fixture(c, inUnits(13, 0, 20, 0, 20, 3)), w, "C0", "F0")
	c = part(c, poly(0, 0, 1, 0, 0, 1), units(13, 0))
	w = api.State{Q: w.Q, Held: w.Held, Where: []int{-1, 1}}
	checkOnly(t, c, w, "C0", "R1")
	checkNone(t, "a lost part", c, resting(w, 1, -1))
}

// P14.1 (N2): a carried part with each link of the other arm.
func TestCarriedPartsAndLinksOfTheOtherArm(t *testing.T) {
	for link := range 3 {
		c, w := loaded()
		c.Arms[1].Base = units(13, -5-10*link)
		checkOnly(t, c, standing(w, 1, upwards), fmt.Sprintf("L1%d", link), "C0")
	}
}

// P14.1 (N2): a carried part with another carried part.
func TestTwoCarriedParts(t *testing.T) {
	c, w := loaded()
	c.Arms[1].Base = units(46, 0)
	c = part(c, poly(1, -2, 3, -2, 3, 2, 1, 2), units(70, 70))
	w = standing(w, 1, toTheLeft)
	w.Where = []int{-1, 1}
	checkNone(t, "one carried part", c, w)
	checkOnly(t, c, holding(w, 1, 1), "C0", "C1")
}

// P14.1 (N2): a carried part with link 0 of its own arm; links 1 and 2 may touch it.
func TestCarriedPartsAndLinksOfTheirArm(t *testing.T) {
	c, w := loaded()
	c.Parts[0].Shape = poly(-10, -2, -1, -2, -1, 2, -10, 2)
	checkNone(t, "links 1 and 2", c, w)
	c.Arms[0].Lens[2] = 9
	checkNone(t, "links 1 and 2", c, w)
	c.Arms[0].Lens = [3]int{10, 5, 4}
	checkOnly(t, c, w, "L00", "C0")
	c.Arms[0].Lens = [3]int{10, 5, 5}
	checkOnly(t, c, w, "L00", "C0") // along an edge
	c.Arms[0].Lens = [3]int{10, 5, 6}
	checkNone(t, "links 1 and 2", c, w)
}

// P14.1 (N2): resting parts and fixtures may touch each other.
func TestBodiesThatDoNotMove(t *testing.T) {
	c := yard()
	large := inUnits(-5, -5, 5, -5, 5, 5, -5, 5)
	c = fixture(fixture(c, large), moved(large, units(1, 1)))
	checkNone(t, "two fixtures", c, cell.InitialState(c))
	c = part(c, poly(-1, -1, 1, -1, 0, 2), units(0, 0))
	checkNone(t, "a resting part in two fixtures", c, cell.InitialState(c))
	c = part(c, poly(-1, -1, 2, -1, 0, 2), units(0, 0))
	checkNone(t, "two resting parts in two fixtures", c, cell.InitialState(c))
	c.Fixtures = nil
	checkNone(t, "two resting parts", c, cell.InitialState(c))
}

// P14.1 (N3), P14.3: fixtures that touch link 2, whose tip is at (10, 0), in one point or along an edge, or miss it by a step.
func TestNearFixtures(t *testing.T) {
	c := yard()
	c.Arms[0].Base = units(-20, 0)
	w := standing(cell.InitialState(c), 0, toTheRight)
	right, top := 10*unit, unit
	for what, f := range map[string]api.Polygon{
		"corner at corner":        poly(right, top, right+9, top+3, right+1, top+9),
		"corner at edge":          poly(right, 5, right+9, 0, right+9, 9),
		"edge at edge":            box(pt(right, -5), pt(right+9, 5)),
		"longer edge at edge":     box(pt(right, -2*top), pt(right+9, 2*top)),
		"part of an edge":         box(pt(right, 0), pt(right+9, 2*top)),
		"edges at one corner":     box(pt(right, top), pt(right+9, top+9)),
		"the link in the edge":    poly(right, -1<<25, right+9, 0, right, 1<<25),
		"an edge at the corner":   poly(right+9, top-9, right+9, top+9, right-9, top+9),
		"a notch around the link": poly(right-9, -9-top, right+9, -9-top, right+9, top+9, right-9, top+9, right-9, top+1, right, top+1, right, -1-top, right-9, -1-top),
	} {
		checkTouching(t, what, fixture(c, f), w, "L02-F0")
		checkTouching(t, what+", a step away", fixture(c, moved(f, pt(1, 0))), w)
		checkTouching(t, what+", a step nearer", fixture(c, moved(f, pt(-1, 0))), w, "L02-F0")
	}
}

// P14.1 (N3), P14.3: fixtures inside links and around them.
func TestFixturesInsideAndAround(t *testing.T) {
	c := yard()
	c.Arms[0].Base = units(-20, 0)
	w := standing(cell.InitialState(c), 0, toTheRight)
	checkTouching(t, "a fixture inside a link", fixture(c, poly(unit/2, 0, unit/2+1, 0, unit/2, 1)), w, "L02-F0")
	checkTouching(t, "a fixture inside two links", fixture(c, poly(-1, 0, 1, 0, 0, 1)), w, "L01-F0", "L02-F0")
	checkTouching(t, "a fixture around an arm", fixture(c, inUnits(-90, -60, 50, -60, 0, 50)), w, "L00-F0", "L01-F0", "L02-F0")
	all := fixture(c, inUnits(-100, -100, 100, -100, 100, 100, -100, 100))
	checkTouching(t, "a fixture around everything", all, w, "L00-F0", "L01-F0", "L02-F0", "L10-F0", "L11-F0", "L12-F0")
	ring := fixture(c, inUnits(-23, -4, 13, -4, 13, 4, -23, 4, -23, 2, 11, 2, 11, -2, -23, -2))
	checkNone(t, "an arm inside a notch of a fixture, whose box contains it", ring, w)
	ring.Arms[0].Wide = 2
	checkTouching(t, "an arm that fills a notch", ring, w, "L00-F0", "L01-F0", "L02-F0")
}

// P14.1 (N3), P14.3: a fixture at the slanted side of a link, one of whose points is on it, just beyond it and just within.
func TestFixtureAtSlantedLink(t *testing.T) {
	c := yard()
	c.Arms[0].Base = units(0, 0)
	w := standing(cell.InitialState(c), 0, api.Joints{2, 0, 0})
	// The left side of the links leads from (-1690000, 4056000) in the direction (12, 5).
	x := pt(-1690000+12*100000, 4056000+5*100000)
	for _, by := range []struct {
		x, y    int
		touches bool
	}{{0, 0, true}, {12, 5, true}, {-12, -5, true}, {0, 1, false}, {-1, 0, false}, {0, -1, true}, {1, 0, true}, {5, 2, true}, {7, 3, false}, {-5, -2, false}, {-7, -3, true}} {
		corner := plus(x, pt(by.x, by.y))
		f := poly(corner.X, corner.Y, corner.X, corner.Y+unit, corner.X-unit, corner.Y)
		if by.touches {
			checkTouching(t, fmt.Sprint("slanted ", by), fixture(c, f), w, "L00-F0")
		} else {
			checkTouching(t, fmt.Sprint("slanted ", by), fixture(c, f), w)
		}
	}
}

// P14.1 (N3), P14.3: links, carried and resting parts that share one corner or a part of an edge, or miss each other by the smallest distance that they may have.
func TestNearMisses(t *testing.T) {
	for _, sideways := range []int{0, 16, unit, 2 * unit} {
		for _, by := range []int{-16, 0, 16} {
			check := func(what string, c api.Cell, w api.State, a, b string) {
				t.Helper()
				what = fmt.Sprintf("%s, %d and %d", what, by, sideways)
				if by == 16 {
					checkNone(t, what, c, w)
				} else {
					checkOnly(t, c, w, a, b)
				}
			}
			c := yard()
			c.Arms[0].Base, c.Arms[1].Base = units(-20, 0), plus(units(40, 0), pt(by, sideways))
			w := standing(standing(cell.InitialState(c), 0, toTheRight), 1, toTheLeft)
			check("two links", c, w, "L02", "L12")
			c, w = loaded()
			c.Arms[1].Base = plus(units(44, 0), pt(by, sideways))
			check("a link and a carried part", c, standing(w, 1, toTheLeft), "L12", "C0")
			c = part(c, poly(2, -1, 4, -1, 4, 1, 2, 1), units(70, 70))
			c.Arms[1].Base = plus(units(48, 0), pt(by, sideways))
			w.Where = []int{-1, 1}
			check("two carried parts", c, standing(holding(w, 1, 1), 1, toTheLeft), "C0", "C1")
			c, w = loaded()
			c = part(c, poly(0, -1, 4, -1, 4, 1, 0, 1), plus(units(14, 0), pt(by, sideways)))
			w.Where = []int{-1, 1}
			check("a carried part and a resting part", c, w, "C0", "R1")
			c = part(yard(), poly(0, -1, 4, -1, 4, 1, 0, 1), plus(units(-39, -35), pt(by, sideways)))
			check("a link and a resting part", c, cell.InitialState(c), "L00", "R0")
			c, w = loaded()
			c = fixture(c, moved(inUnits(14, -1, 15, -1, 15, 1, 14, 1), pt(by/16, sideways)))
			check("a carried part and a fixture", c, w, "C0", "F0")
		}
	}
}

// P14.1 (N2, N3), P14.3: random scenes; the pairs of all kinds are among the collisions, and among the pairs that do not touch.
func TestRandomPairs(t *testing.T) {
	r := rand.New(rand.NewSource(16))
	count := map[string]int{}
	for range 3000 {
		c, w := drawScene(r)
		checkPairs(t, "random", c, w)
		touching := pairLabels(collision.Collisions(c, w))
		for _, p := range collision.CheckedPairs(c, w) {
			name := labelOf(p)
			touches := slices.Contains(touching, name)
			if touches != intersect.Polygons(p.A.Area, p.B.Area) || !touches && haveCornersInside(p) {
				t.Fatalf("whether %s touch in %v, %v is not %v", name, c, w, touches)
			}
			count[fmt.Sprint(name, touches)]++
		}
		count[fmt.Sprint(len(touching) == 0)]++
	}
	var names []string
	for k := range 2 {
		names = append(names, fmt.Sprintf("L%d0-L%d2", k, k), fmt.Sprintf("L%d0-C%d", k, k))
		for n := range 3 {
			names = append(names, fmt.Sprintf("L0%d-L1%d", n, k), fmt.Sprintf("L%d%d-F0", k, n), fmt.Sprintf("L%d%d-C%d", k, n, 1-k))
		}
		names = append(names, fmt.Sprintf("L%d0-R0", k), fmt.Sprintf("L%d1-R1", k), fmt.Sprintf("C%d-R0", k), fmt.Sprintf("C%d-F1", k))
	}
	names = append(names, "C0-C1")
	for _, name := range names {
		if count[name+"true"] < 10 || count[name+"false"] < 10 {
			t.Errorf("%s: %d, %d", name, count[name+"true"], count[name+"false"])
		}
	}
	if count["true"] < 200 {
		t.Errorf("%d scenes without collisions", count["true"])
	}
}

// haveCornersInside reports whether a corner of one body of a pair is in the other one.
func haveCornersInside(p api.BodyPair) bool {
	isIn := func(area api.Polygon) func(x api.Point) bool {
		return func(x api.Point) bool { return polygon.Locate(area, x) >= 0 }
	}
	return slices.ContainsFunc(p.A.Area, isIn(p.B.Area)) || slices.ContainsFunc(p.B.Area, isIn(p.A.Area))
}

// renamed exchanges the arms in the names of pairs, which list the lesser label first.
func renamed(names []string) []string {
	out := []string{}
	for _, name := range names {
		a, b, _ := strings.Cut(name, "-")
		a, b = swappedName(a), swappedName(b)
		out = append(out, min(a, b)+"-"+max(a, b))
	}
	slices.Sort(out)
	return out
}

// P14.4: both arms and the parts that they hold exchanged, for random scenes.
func TestExchangedArms(t *testing.T) {
	r := rand.New(rand.NewSource(17))
	collisions := 0
	for range 2000 {
		c, w := drawScene(r)
		d, x := swapped(c, w)
		checkState(t, "exchanged", d, x, true)
		checked, touching := unordered(collision.CheckedPairs(c, w)), unordered(collision.Collisions(c, w))
		if got, want := unordered(collision.CheckedPairs(d, x)), renamed(checked); !slices.Equal(got, want) {
			t.Fatalf("with the arms exchanged, CheckedPairs are %v, want %v", got, want)
		}
		if got, want := unordered(collision.Collisions(d, x)), renamed(touching); !slices.Equal(got, want) {
			t.Fatalf("with the arms exchanged, Collisions are %v, want %v", got, want)
		}
		collisions += len(touching)
	}
	if collisions < 2000 {
		t.Errorf("%d collisions", collisions)
	}
}

// translated returns a cell translated by a vector of which the coordinates are multiples of 16.
func translated(c api.Cell, by api.Point) api.Cell {
	for k := range c.Arms {
		c.Arms[k].Base = plus(c.Arms[k].Base, by)
	}
	c.Fixtures, c.Places = slices.Clone(c.Fixtures), slices.Clone(c.Places)
	for i, f := range c.Fixtures {
		c.Fixtures[i] = moved(f, by)
	}
	for i := range c.Places {
		c.Places[i].At = plus(c.Places[i].At, by)
	}
	return c
}

// P14.4: the whole cell translated, for random scenes.
func TestTranslatedCells(t *testing.T) {
	r := rand.New(rand.NewSource(18))
	collisions := 0
	for range 2000 {
		c, w := drawScene(r)
		by := drawUpTo(r, []int{1, unit / 16, 30 * unit / 16}[r.Intn(3)])
		by = pt(16*by.X, 16*by.Y)
		d := translated(c, by)
		if !cell.Valid(d) {
			continue
		}
		move := func(l []api.BodyPair) []api.BodyPair {
			var out []api.BodyPair
			for _, p := range l {
				p.A.Area, p.B.Area = moved(p.A.Area, by), moved(p.B.Area, by)
				out = append(out, p)
			}
			return out
		}
		checkState(t, "translated", d, w, true)
		if got, want := collision.CheckedPairs(d, w), move(collision.CheckedPairs(c, w)); !samePairs(got, want) {
			t.Fatalf("translated by %v, CheckedPairs are %v, want %v", by, got, want)
		}
		if got, want := collision.Collisions(d, w), move(collision.Collisions(c, w)); !samePairs(got, want) {
			t.Fatalf("translated by %v, Collisions are %v, want %v", by, got, want)
		}
		collisions += len(collision.Collisions(d, w))
	}
	if collisions < 2000 {
		t.Errorf("%d collisions", collisions)
	}
}

// P14.5: a fixture appended adds only pairs that contain it, for random scenes.
func TestAppendedFixture(t *testing.T) {
	r := rand.New(rand.NewSource(19))
	added := 0
	for range 2000 {
		c, w := drawScene(r)
		name := fmt.Sprintf("F%d", len(c.Fixtures))
		d := fixture(c, drawFixture(r, c.Arms[r.Intn(2)].Base))
		isNew := func(p api.BodyPair) bool { return label(p.B) == name }
		for _, list := range []func(c api.Cell, w api.State) []api.BodyPair{collision.CheckedPairs, collision.Collisions} {
			old, all := list(c, w), list(d, w)
			if got := slices.DeleteFunc(slices.Clone(all), isNew); !samePairs(got, old) {
				t.Fatalf("behind %s, the pairs are %v, before it %v", name, pairLabels(all), pairLabels(old))
			}
			added += len(all) - len(old)
		}
		if n := len(collision.Bodies(d, w)) - len(collision.Bodies(c, w)); n != 1 {
			t.Errorf("%d bodies more", n)
		}
	}
	if added < 2000*6+600 {
		t.Errorf("%d pairs added", added)
	}
}

// without returns the names of those collisions that contain a body of arm k and none of the other arm.
func without(c api.Cell, w api.State, k int) []string {
	isOf := func(b api.Body, k int) bool { return b.Kind <= 2 && b.I == k }
	return pairLabels(slices.DeleteFunc(collision.Collisions(c, w), func(p api.BodyPair) bool {
		return !isOf(p.A, k) && !isOf(p.B, k) || isOf(p.A, 1-k) || isOf(p.B, 1-k)
	}))
}

// P14.5: what the bodies of one arm touch apart from those of the other arm, while the other arm moves, for random scenes.
func TestMovedArm(t *testing.T) {
	r := rand.New(rand.NewSource(20))
	collisions := 0
	for range 500 {
		c, w := drawScene(r)
		for k := range 2 {
			want := without(c, w, k)
			for range 4 {
				if got := without(c, standing(w, 1-k, drawJoints(r, c.Arms[1-k])), k); !slices.Equal(got, want) {
					t.Fatalf("what arm %d touches depends on the other arm: %v, %v", k, got, want)
				}
			}
			collisions += len(want)
		}
	}
	if collisions < 300 {
		t.Errorf("%d collisions", collisions)
	}
}

// copied returns a cell that shares no memory with c.
func copied(c api.Cell) api.Cell {
	c.Places, c.Belt = slices.Clone(c.Places), slices.Clone(c.Belt)
	c.Fixtures, c.Parts, c.Zones = slices.Clone(c.Fixtures), slices.Clone(c.Parts), slices.Clone(c.Zones)
	for i, f := range c.Fixtures {
		c.Fixtures[i] = slices.Clone(f)
	}
	for i := range c.Parts {
		c.Parts[i].Shape = slices.Clone(c.Parts[i].Shape)
	}
	for i := range c.Zones {
		c.Zones[i].Area = slices.Clone(c.Zones[i].Area)
	}
	return c
}

// areasOf are the areas of the bodies of pairs.
func areasOf(l []api.BodyPair) []api.Polygon {
	var areas []api.Polygon
	for _, p := range l {
		areas = append(areas, p.A.Area, p.B.Area)
	}
	return areas
}

// P3: the functions do not change their arguments, return the same again, and return memory of their own: no two polygons of one result share it either.
func TestMemory(t *testing.T) {
	r := rand.New(rand.NewSource(21))
	for range 200 {
		c, w := drawScene(r)
		d, x := copied(c), cloned(w)
		results := func() [][]api.Polygon {
			var bodies []api.Polygon
			for _, b := range collision.Bodies(c, w) {
				bodies = append(bodies, b.Area)
			}
			return [][]api.Polygon{bodies, areasOf(collision.CheckedPairs(c, w)), areasOf(collision.Collisions(c, w))}
		}
		free, first, second := collision.IsFree(c, w), results(), results()
		if !collision.ValidState(c, w) || !reflect.DeepEqual(c, d) || !reflect.DeepEqual(w, x) || !reflect.DeepEqual(first, second) {
			t.Fatal("an argument changes, or the result of a second call")
		}
		for i, areas := range first {
			for j, area := range areas {
				for n := range area {
					area[n] = pt(i, j)
				}
				_ = append(area, pt(-7, -7))
			}
			for j, area := range areas {
				if slices.ContainsFunc(area, func(p api.Point) bool { return p != pt(i, j) }) {
					t.Fatal("two polygons of one result share memory")
				}
			}
		}
		if !reflect.DeepEqual(c, d) || !reflect.DeepEqual(w, x) || !reflect.DeepEqual(results(), second) || collision.IsFree(c, w) != free {
			t.Fatal("a result shares memory with an argument or with another result")
		}
	}
}

// P3: a nil slice and an empty one are equivalent in arguments.
func TestEmptyLists(t *testing.T) {
	c := yard()
	c.Home = [2]api.Joints{{9, 0, 0}, {0, 0, 17}}
	full := c
	full.Fixtures, full.Places, full.Parts, full.Belt, full.Zones = []api.Polygon{}, []api.Place{}, []api.Part{}, []int{}, []api.Zone{}
	for _, where := range [][]int{nil, {}} {
		for _, x := range []api.Cell{c, full} {
			w := api.State{Q: c.Home, Held: [2]int{-1, -1}, Where: where}
			checkBodies(t, "empty lists", x, w)
			checkPairs(t, "empty lists", x, w)
		}
	}
}

// P3: calls at the same time do not affect each other.
func TestConcurrentCalls(t *testing.T) {
	r := rand.New(rand.NewSource(22))
	c, w := drawScene(r)
	for len(touchingOf(c, w)) < 3 || len(c.Parts) < 3 {
		c, w = drawScene(r)
	}
	bodies, checked, touching := bodiesOf(c, w), checkedOf(c, w), touchingOf(c, w)
	var group sync.WaitGroup
	for range 8 {
		group.Go(func() {
			for range 100 {
				if !reflect.DeepEqual(collision.Bodies(c, w), bodies) || !samePairs(collision.CheckedPairs(c, w), checked) || !samePairs(collision.Collisions(c, w), touching) || collision.IsFree(c, w) || !collision.ValidState(c, w) {
					t.Error("a call at the same time as others returns something else")
				}
			}
		})
	}
	group.Wait()
}

// P1: every call returns, for states and cells that are not valid, too. ValidState is specified for all states.
func TestEveryCallReturns(t *testing.T) {
	numbers := []int{math.MinInt, -1 << 32, -18, -2, -1, 0, 1, 2, 3, 4, 19, 1 << 32, math.MaxInt}
	call := func(c api.Cell, w api.State) {
		collision.ValidState(c, w)
		collision.Bodies(c, w)
		collision.CheckedPairs(c, w)
		collision.Collisions(c, w)
		collision.IsFree(c, w)
	}
	c := described(t, bench)
	for _, n := range numbers {
		for _, m := range numbers {
			q := [2]api.Joints{{n, m, n}, {m, m, n}}
			for _, where := range [][]int{nil, {n}, {m, n}, {0, m, n}, {n, m, 2, 0, 1}, {0, 0, 0}} {
				for _, held := range [][2]int{{n, m}, {m, -1}, {0, 0}} {
					w := api.State{Q: q, Held: held, Where: where}
					call(c, w)
					call(api.Cell{}, w)
					w.Q = c.Home
					call(c, w)
					checkState(t, "any state", c, w, isState(c, w))
				}
			}
			wrong := c
			wrong.Arms[1] = api.Arm{Base: pt(n, m), Lens: [3]int{m, n, m}, Wide: n, Low: q[0], High: q[1]}
			wrong.Fixtures = []api.Polygon{nil, {}, {pt(n, m)}, {pt(n, m), pt(m, n)}, {pt(n, n), pt(m, n), pt(n, m)}}
			wrong.Places = []api.Place{{At: pt(n, m), Dir: api.Direction{X: n, Y: m, N: n}}, {}}
			wrong.Parts = []api.Part{{Place: n}, {Place: m, Shape: wrong.Fixtures[4]}}
			for _, where := range [][]int{{0, 1}, {-1, 0}, {0, -1}, {-1, -1}, {n, m}} {
				call(wrong, api.State{Q: q, Held: [2]int{n, m}, Where: where})
				call(wrong, api.State{Held: [2]int{-1, 0}, Where: where})
				call(wrong, api.State{Held: [2]int{1, 0}, Where: where})
			}
		}
	}
}
