package cell_test

import (
	"fmt"
	"math"
	"math/rand"
	"reflect"
	"slices"
	"strings"
	"sync"
	"testing"

	"ambidexter/api"
	"ambidexter/cell"
	"ambidexter/geom"
	"ambidexter/polygon"
)

// right, up, left and down are the directions of the axes.
var (
	right = api.Direction{X: length, N: 3}
	up    = api.Direction{Y: length, N: 3}
	left  = api.Direction{X: -length, N: 3}
	down  = api.Direction{Y: -length, N: 3}
)

// example returns a valid cell with two fixtures, four places, three parts and a zone.
func example() api.Cell {
	return api.Cell{
		Arms: [2]api.Arm{
			{Base: pt(-20*unit, 0), Lens: [3]int{20, 15, 5}, Wide: 2, Low: api.Joints{-17, -17, -17}, High: api.Joints{18, 18, 18}},
			{Base: pt(20*unit, -16), Lens: [3]int{18, 12, 6}, Wide: 1, Low: api.Joints{-9, -12, -3}, High: api.Joints{9, 12, 0}},
		},
		Home:     [2]api.Joints{{9, 0, 1}, {-9, 5, 0}},
		Fixtures: []api.Polygon{square(-5, 30, 10), {pt(0, 0), pt(unit, -7), pt(unit/2, unit)}},
		Places: []api.Place{
			{Name: "left", At: units(-10, 10), Dir: right},
			{Name: "Right_2", At: units(10, 10), Dir: down},
			{Name: "p", At: pt(-16, 32), Dir: api.Direction{X: 266175, Y: 67600, N: 3}},
			{Name: "lower", At: units(0, -20), Dir: api.Direction{X: -201663, Y: -186416, N: 3}},
		},
		Parts: []api.Part{
			{Name: "bolt", Shape: api.Polygon{pt(-1, -2), pt(3, -2), pt(3, 4), pt(-1, 4)}, Place: 1},
			{Name: "nut", Shape: api.Polygon{pt(0, 0), pt(10, -10), pt(2, 5)}, Place: 3},
			{Name: "p", Shape: api.Polygon{pt(-1, 0), pt(0, -1), pt(1, 0), pt(0, 1)}, Place: 0},
		},
		Belt:   []int{2, 0},
		Period: 30,
		Limits: api.Limits{V: 8, A: 4, J: 2},
		Loaded: api.Limits{V: 5, A: 3, J: 1},
		Zones:  []api.Zone{{Area: square(-40, -40, 7)}},
		Gap:    3,
		Slow:   2,
	}
}

// bare returns a valid cell without fixtures, places, parts and zones.
func bare() api.Cell {
	c := example()
	c.Fixtures, c.Places, c.Parts, c.Belt, c.Zones = nil, nil, nil, nil, nil
	return c
}

// square returns a square with a lower left corner and a side in units.
func square(x, y, side int) api.Polygon {
	return api.Polygon{units(x, y), units(x+side, y), units(x+side, y+side), units(x, y+side)}
}

// checkValid compares Valid with want.
func checkValid(t *testing.T, what string, c api.Cell, want bool) {
	t.Helper()
	if got := cell.Valid(c); got != want {
		t.Errorf("%s: Valid(%v) = %v, want %v", what, c, got, want)
	}
}

// change is a change of a valid cell, and whether the result is valid.
type change struct {
	what   string
	change func(c *api.Cell)
	want   bool
}

// checkChanges compares Valid for changes of the example with what they want.
func checkChanges(t *testing.T, l []change) {
	t.Helper()
	for _, x := range l {
		c := example()
		x.change(&c)
		checkValid(t, x.what, c, x.want)
	}
}

// P9.1 (I1): the examples themselves, and the zero cell.
func TestValidExamples(t *testing.T) {
	checkValid(t, "the example", example(), true)
	checkValid(t, "a bare cell", bare(), true)
	checkValid(t, "the zero cell", api.Cell{}, false)
	empty := bare()
	empty.Fixtures, empty.Places, empty.Parts, empty.Belt, empty.Zones = []api.Polygon{}, []api.Place{}, []api.Part{}, []int{}, []api.Zone{}
	checkValid(t, "a bare cell with empty lists", empty, true)
}

// P9.1 (I1): invalid arms, and homes at and beyond the limits of each joint of each arm.
func TestValidArmsAndHomes(t *testing.T) {
	for k := range 2 {
		checkChanges(t, []change{
			{"a base off the grid", func(c *api.Cell) { c.Arms[k].Base.X += 8 }, false},
			{"a base on the grid", func(c *api.Cell) { c.Arms[k].Base.X += 16 }, true},
			{"a link of 0", func(c *api.Cell) { c.Arms[k].Lens[0] = 0 }, false},
			{"a link of 41", func(c *api.Cell) { c.Arms[k].Lens[1] = 41 }, false},
			{"a width of 0", func(c *api.Cell) { c.Arms[k].Wide = 0 }, false},
			{"a width of 5", func(c *api.Cell) { c.Arms[k].Wide = 5 }, false},
			{"a lower limit of -18", func(c *api.Cell) { c.Arms[k].Low[2] = -18 }, false},
			{"an upper limit of 19", func(c *api.Cell) { c.Arms[k].High[0] = 19 }, false},
			{"the zero arm", func(c *api.Cell) { c.Arms[k] = api.Arm{} }, false},
		})
		for joint := range 3 {
			at := func(low, high, home int) func(c *api.Cell) {
				return func(c *api.Cell) { c.Arms[k].Low[joint], c.Arms[k].High[joint], c.Home[k][joint] = low, high, home }
			}
			checkChanges(t, []change{
				{"home at the lower limit", at(-5, 7, -5), true},
				{"home below the lower limit", at(-5, 7, -6), false},
				{"home at the upper limit", at(-5, 7, 7), true},
				{"home above the upper limit", at(-5, 7, 8), false},
				{"home at the only value", at(4, 4, 4), true},
				{"home below the only value", at(4, 4, 3), false},
				{"home above the only value", at(4, 4, 5), false},
				{"home at the least value", at(-17, 18, -17), true},
				{"home below the least value", at(-17, 18, -18), false},
				{"home at the largest value", at(-17, 18, 18), true},
				{"home above the largest value", at(-17, 18, 19), false},
				{"limits in reverse order", at(1, 0, 0), false},
			})
		}
	}
	swapped := example()
	swapped.Home[0], swapped.Home[1] = swapped.Home[1], swapped.Home[0]
	checkValid(t, "homes within the limits of the other arms", swapped, false)
}

// P9.1 (I1): bases that are written out: with links of 73 units in all, the bound is one unit, with 57 units 19 units.
func TestValidBasesExamples(t *testing.T) {
	arms := func(lens [3]int, base api.Point) func(c *api.Cell) {
		return func(c *api.Cell) {
			for k := range 2 {
				c.Arms[k].Lens, c.Arms[k].Base, c.Arms[k].Wide = lens, base, 4
			}
		}
	}
	checkChanges(t, []change{
		{"73 units at the bound", arms([3]int{40, 32, 1}, units(1, -1)), true},
		{"73 units beyond the bound", arms([3]int{40, 32, 1}, pt(unit+16, 0)), false},
		{"74 units", arms([3]int{40, 33, 1}, pt(0, 0)), false},
		{"75 units", arms([3]int{40, 34, 1}, pt(0, 0)), false},
		{"57 units at the bound", arms([3]int{19, 19, 19}, units(-19, 19)), true},
		{"57 units above the bound", arms([3]int{19, 19, 19}, pt(0, 19*unit+16)), false},
		{"57 units below the bound", arms([3]int{19, 19, 19}, pt(0, -19*unit-16)), false},
		{"3 units at the bound", arms([3]int{1, 1, 1}, pt(638*unit/8, 0)), false},
		{"3 units at the last multiple of 16 before the bound", arms([3]int{1, 1, 1}, pt(638*unit/8/16*16, -638*unit/8/16*16)), true},
		{"3 units at 80", arms([3]int{1, 1, 1}, units(80, 0)), false},
	})
}

// P9.1 (I1): bases at the last multiple of 16 before the bound and the first one beyond it, for each arm, coordinate and sum of lengths.
func TestValidBases(t *testing.T) {
	for k := range 2 {
		for sum := 3; sum <= 73; sum++ {
			c := example()
			c.Arms[k].Lens = [3]int{sum / 3, (sum + 1) / 3, (sum + 2) / 3}
			most := room(c.Arms[k]) / 16 * 16
			for _, x := range []int{0, most - 16, most, most + 16, most + unit} {
				for _, base := range []api.Point{pt(x, 0), pt(-x, 0), pt(0, x), pt(0, -x), pt(x, -x), pt(-x, x)} {
					c.Arms[k].Base = base
					checkValid(t, "base", c, x <= most)
				}
			}
			c.Arms[k].Base = pt(0, 0)
			for wide := 1; wide <= 4; wide++ {
				c.Arms[k].Wide = wide
				checkValid(t, "wide arm", c, true)
			}
		}
	}
}

// P9.1 (I1): numbers of fixtures and zones.
func TestValidNumbersOfAreas(t *testing.T) {
	for n := range 20 {
		c := example()
		c.Fixtures = slices.Repeat([]api.Polygon{square(0, 0, 1)}, n)
		checkValid(t, "fixtures", c, n <= 16)
		c = example()
		c.Zones = slices.Repeat([]api.Zone{{Area: square(0, 0, 1)}}, n)
		checkValid(t, "zones", c, n <= 16)
		c.Fixtures = slices.Repeat([]api.Polygon{square(0, 0, 1)}, 16)
		checkValid(t, "16 fixtures and zones", c, n <= 16)
	}
}

// areas are polygons, and whether they are valid.
func areas() map[string]struct {
	p    api.Polygon
	want bool
} {
	var dozen api.Polygon
	for i := range 6 {
		dozen = append(dozen, pt(i*100, i*i))
	}
	for i := range 6 {
		dozen = append(dozen, pt(1000-i*100, 1000-i*i))
	}
	reversed := square(0, 0, 1)
	slices.Reverse(reversed)
	return map[string]struct {
		p    api.Polygon
		want bool
	}{
		"a large square":             {square(-100, -100, 200), true},
		"a square out of range":      {square(-100, -99, 200), false},
		"a square just out of it":    {api.Polygon{pt(0, 0), pt(1, 0), pt(1, 100*unit+1)}, false},
		"a tiny triangle":            {api.Polygon{pt(0, 0), pt(1, 0), pt(0, 1)}, true},
		"a notch":                    {api.Polygon{pt(0, 0), pt(9, 0), pt(9, 9), pt(5, 3), pt(0, 9)}, true},
		"twelve corners":             {dozen, true},
		"thirteen corners":           {append(slices.Clone(dozen), pt(-1, 500)), false},
		"no corners":                 {nil, false},
		"one corner":                 {api.Polygon{pt(0, 0)}, false},
		"two corners":                {api.Polygon{pt(0, 0), pt(5, 5)}, false},
		"three collinear corners":    {api.Polygon{pt(0, 0), pt(5, 0), pt(9, 0), pt(9, 9)}, false},
		"a clockwise square":         {reversed, false},
		"edges that cross":           {api.Polygon{pt(0, 0), pt(9, 0), pt(0, 9), pt(9, 8)}, false},
		"a corner that occurs twice": {api.Polygon{pt(0, 0), pt(9, 0), pt(9, 9), pt(9, 9)}, false},
	}
}

// P9.1 (I1): valid and invalid polygons as the first, the last and the only fixture and zone.
func TestValidAreas(t *testing.T) {
	for what, x := range areas() {
		for i := range 5 {
			c := example()
			c.Fixtures = slices.Repeat([]api.Polygon{square(0, 0, 1)}, 5)
			c.Fixtures[i] = x.p
			checkValid(t, "fixture: "+what, c, x.want)
			c = example()
			c.Zones = slices.Repeat([]api.Zone{{Area: square(0, 0, 1)}}, 5)
			c.Zones[i].Area = x.p
			checkValid(t, "zone: "+what, c, x.want)
		}
		c := bare()
		c.Fixtures = []api.Polygon{x.p}
		checkValid(t, "only fixture: "+what, c, x.want)
		c = bare()
		c.Zones = []api.Zone{{Area: x.p}}
		checkValid(t, "only zone: "+what, c, x.want)
	}
}

// withPlaces returns a cell with n places and no parts.
func withPlaces(n int) api.Cell {
	c := bare()
	for i := range n {
		c.Places = append(c.Places, api.Place{Name: fmt.Sprintf("place%d", i), At: units(i, -i), Dir: up})
	}
	return c
}

// withParts returns a cell with n parts at the first of max(n, 3) places.
func withParts(n int) api.Cell {
	c := withPlaces(max(n, 3))
	for i := range n {
		c.Parts = append(c.Parts, api.Part{Name: fmt.Sprintf("part%d", i), Shape: api.Polygon{pt(0, 0), pt(i+1, 0), pt(0, 1)}, Place: i})
	}
	return c
}

// P9.1 (I1): numbers of places and parts.
func TestValidNumbersOfPlacesAndParts(t *testing.T) {
	for n := range 20 {
		checkValid(t, "places", withPlaces(n), n <= 16)
		if n <= 9 {
			checkValid(t, "parts", withParts(n), n <= 8)
		}
		full := withPlaces(16)
		full.Parts = withParts(min(n, 8)).Parts
		checkValid(t, "parts at some of 16 places", full, true)
	}
	crowded := withPlaces(16)
	crowded.Parts = withParts(8).Parts
	crowded.Parts = append(crowded.Parts, api.Part{Name: "part8", Shape: crowded.Parts[0].Shape, Place: 8})
	checkValid(t, "9 parts at some of 16 places", crowded, false)
	crowded.Parts = crowded.Parts[1:]
	checkValid(t, "the last 8 of them", crowded, true)
}

// named returns cells whose first place, whose last place, whose first part and whose last part have a name.
func named(name string) []api.Cell {
	l := []api.Cell{withPlaces(3), withPlaces(3), withParts(3), withParts(3)}
	l[0].Places[0].Name = name
	l[1].Places[2].Name = name
	l[2].Parts[0].Name = name
	l[3].Parts[2].Name = name
	return l
}

// P9.1 (I1): names that are written out.
func TestValidNamesExamples(t *testing.T) {
	for _, x := range []struct {
		name string
		want bool
	}{
		{"a", true}, {"z", true}, {"A", true}, {"Z", true}, {"", false},
		{"abcdefghijkl", true}, {"abcdefghijklm", false}, {"A1_b2_C3_d4_", true}, {"A1_b2_C3_d4_5", false},
		{strings.Repeat("x", 1000), false},
		{"0", false}, {"1a", false}, {"_", false}, {"_a", false}, {"a_", true}, {"a0", true}, {"a9", true}, {"a__", true}, {"Zz", true},
		{"a b", false}, {" a", false}, {"a ", false}, {"a-b", false}, {"a.b", false}, {"a\n", false}, {"a\x00", false}, {"\x00", false},
		{"@a", false}, {"[a", false}, {"`a", false}, {"{a", false}, {"a@", false}, {"a[", false}, {"a`", false}, {"a{", false}, {"a/", false}, {"a:", false},
		{"ä", false}, {"aä", false}, {"a\xff", false}, {"\xe1", false}, {"aé", false}, {"А", false}, {"a٣", false}, {"äbcdef", false},
		{"arm", true}, {"guard", true}, {"go", true},
	} {
		for _, c := range named(x.name) {
			checkValid(t, fmt.Sprintf("%q", x.name), c, x.want)
		}
	}
}

// P9.1 (I1): all names of one and of two bytes, and all bytes in the last position of the longest name.
func TestValidNamesOfAllBytes(t *testing.T) {
	for b := range 256 {
		for _, tail := range []string{"", "abcdefghijk", "abcdefghijkl"} {
			name := string([]byte{byte(b)}) + tail
			for _, c := range named(name) {
				checkValid(t, fmt.Sprintf("%q", name), c, nameForm.MatchString(name))
			}
			name = tail + string([]byte{byte(b)})
			for _, c := range named(name) {
				checkValid(t, fmt.Sprintf("%q", name), c, nameForm.MatchString(name))
			}
		}
		for second := range 256 {
			name := string([]byte{byte(b), byte(second)})
			for _, c := range named(name) {
				checkValid(t, fmt.Sprintf("%q", name), c, nameForm.MatchString(name))
			}
		}
	}
}

// P9.1 (I1): the names of places are distinct, and so are those of parts; a place and a part may have one name.
func TestValidEqualNames(t *testing.T) {
	for i := range 8 {
		for j := range 8 {
			c := withParts(8)
			c.Places[i].Name = c.Places[j].Name
			checkValid(t, "equal names of places", c, i == j)
			c = withParts(8)
			c.Parts[i].Name = c.Parts[j].Name
			checkValid(t, "equal names of parts", c, i == j)
			c = withParts(8)
			c.Parts[i].Name = c.Places[j].Name
			checkValid(t, "a part and a place of one name", c, true)
			c.Places[i].Name = strings.ToUpper(c.Places[j].Name)
			checkValid(t, "names in letters of another size", c, true)
		}
	}
	c := withPlaces(16)
	c.Places[15].Name = c.Places[0].Name
	checkValid(t, "the first of 16 names again", c, false)
}

// P9.1 (I1): positions on the grid and off it, and at and beyond 85 units.
func TestValidPositions(t *testing.T) {
	const most = 85 * unit
	for _, i := range []int{0, 1, 2} {
		for _, x := range []int{
			0, 1, -1, 2, 4, 8, -8, 12, 15, 16, -16, 17, 24, 32, 40, -40, 48, unit, unit + 8, most - 16, most - 8, most - 1, most, most + 1, most + 8, most + 16, most + unit, 100 * unit,
			-most + 16, -most + 8, -most + 1, -most, -most - 1, -most - 8, -most - 16, -most - unit, -100 * unit,
			math.MinInt, math.MinInt + 16, math.MaxInt, math.MaxInt - 15, 1 << 40, -1 << 40, 1 << 62,
		} {
			c := withPlaces(3)
			want := x%16 == 0 && -most <= x && x <= most
			c.Places[i].At = pt(x, 0)
			checkValid(t, "X of a place", c, want)
			c.Places[i].At = pt(0, x)
			checkValid(t, "Y of a place", c, want)
			c.Places[i].At = pt(x, -16)
			checkValid(t, "X of a place", c, want)
			c.Places[i].At = pt(x, x)
			checkValid(t, "X and Y of a place", c, want)
		}
	}
}

// P9.1 (I1): all valid directions of exponent 3, the same vectors with other exponents, and vectors that are no directions.
func TestValidDirections(t *testing.T) {
	if len(directions()) != 4*7*7 {
		t.Fatalf("there are %d directions", len(directions()))
	}
	check := func(what string, d api.Direction, want bool) {
		t.Helper()
		for i := range 3 {
			c := withPlaces(3)
			c.Places[i].Dir = d
			checkValid(t, what, c, want)
		}
	}
	for _, d := range directions() {
		check("a direction", d, true)
		for _, n := range []int{-1, 0, 1, 2, 4, 6, math.MinInt, math.MaxInt} {
			check("another exponent", api.Direction{X: d.X, Y: d.Y, N: n}, false)
		}
		check("a longer X", api.Direction{X: d.X + 1, Y: d.Y, N: 3}, false)
		check("a shorter Y", api.Direction{X: d.X, Y: d.Y - 1, N: 3}, false)
	}
	for _, d := range []api.Direction{
		{}, {N: 3}, {X: 1}, {X: 65, N: 1}, {X: 63, Y: 16, N: 1}, {X: 4225, N: 2}, {Y: -4225, N: 2}, {X: 65, N: 3}, {X: 4225, N: 3}, {X: length, Y: length, N: 3},
		{X: length + 1<<32, N: 3}, {X: length, Y: 1 << 32, N: 3}, {X: math.MinInt, Y: length, N: 3}, {X: length * 65, N: 3}, {X: length * 65, N: 4},
	} {
		check("no direction", d, false)
	}
}

// withShape returns a cell with three parts of which number i has a shape.
func withShape(i int, s api.Polygon) api.Cell {
	c := withParts(3)
	c.Parts[i].Shape = s
	return c
}

// P9.1 (I1): shapes that are written out.
func TestValidShapesExamples(t *testing.T) {
	for _, x := range []struct {
		what string
		s    api.Polygon
		want bool
	}{
		{"no corners", nil, false},
		{"one corner", api.Polygon{pt(1, 1)}, false},
		{"two corners", api.Polygon{pt(0, 0), pt(5, 5)}, false},
		{"three corners", api.Polygon{pt(0, 0), pt(5, 0), pt(0, 5)}, true},
		{"four corners", api.Polygon{pt(0, 0), pt(5, 0), pt(6, 6), pt(0, 5)}, true},
		{"five corners", api.Polygon{pt(0, 0), pt(5, 0), pt(6, 6), pt(3, 8), pt(0, 5)}, false},
		{"twelve corners", areas()["twelve corners"].p, false},
		{"at the bounds", api.Polygon{pt(-10, -10), pt(10, -10), pt(10, 10), pt(-10, 10)}, true},
		{"beyond the bound on the right", api.Polygon{pt(0, 0), pt(11, 0), pt(0, 5)}, false},
		{"beyond the bound on the left", api.Polygon{pt(0, 0), pt(5, 0), pt(-11, 5)}, false},
		{"beyond the upper bound", api.Polygon{pt(0, 0), pt(5, 0), pt(0, 11)}, false},
		{"beyond the lower bound", api.Polygon{pt(0, -11), pt(5, 0), pt(0, 5)}, false},
		{"far beyond the bound", api.Polygon{pt(0, 0), pt(math.MaxInt, 0), pt(0, math.MaxInt)}, false},
		{"at the other end of int", api.Polygon{pt(0, 0), pt(5, math.MinInt), pt(5, 5)}, false},
		{"clockwise", api.Polygon{pt(0, 0), pt(0, 5), pt(5, 0)}, false},
		{"clockwise with four corners", api.Polygon{pt(0, 0), pt(0, 5), pt(5, 5), pt(5, 0)}, false},
		{"three collinear corners", api.Polygon{pt(0, 0), pt(5, 5), pt(9, 9)}, false},
		{"a fourth corner on an edge", api.Polygon{pt(0, 0), pt(5, 0), pt(10, 0), pt(0, 5)}, false},
		{"a corner on the line through an edge, beyond it", api.Polygon{pt(0, 0), pt(5, 0), pt(9, 3), pt(10, 0)}, false},
		{"the last corner on the line through the first edge", api.Polygon{pt(0, 0), pt(4, 0), pt(0, 4), pt(-4, 0)}, false},
		{"not convex at the second corner", api.Polygon{pt(0, 0), pt(2, 1), pt(10, 0), pt(2, 9)}, false},
		{"not convex at the third corner", api.Polygon{pt(0, 0), pt(10, 0), pt(3, 3), pt(0, 10)}, false},
		{"not convex at the last corner", api.Polygon{pt(-10, -10), pt(0, 10), pt(-10, 5), pt(-9, 0)}, false},
		{"edges that cross", api.Polygon{pt(0, 0), pt(5, 0), pt(0, 5), pt(5, 5)}, false},
		{"a corner that occurs twice", api.Polygon{pt(0, 0), pt(5, 0), pt(5, 0), pt(0, 5)}, false},
		{"away from the tool center point", api.Polygon{pt(7, 7), pt(9, 7), pt(8, 10)}, true},
		{"the smallest triangle", api.Polygon{pt(0, 0), pt(1, 0), pt(0, 1)}, true},
		{"a narrow triangle", api.Polygon{pt(-10, -10), pt(10, 9), pt(9, 9)}, true},
		{"a narrow quadrilateral", api.Polygon{pt(-10, -10), pt(0, -1), pt(10, 10), pt(-1, 0)}, true},
	} {
		for i := range 3 {
			checkValid(t, x.what, withShape(i, x.s), x.want)
		}
	}
}

// P9.1 (I1): all triangles and quadrilaterals on a small grid, and their corners in any order.
func TestValidShapesOnGrid(t *testing.T) {
	var grid []api.Point
	for x := range 3 {
		for y := range 3 {
			grid = append(grid, pt(x-1, y+8))
		}
	}
	seen := map[string]int{}
	check := func(s api.Polygon) {
		want := isShape(s)
		seen[fmt.Sprint(len(s), want)]++
		checkValid(t, "shape", withShape(1, s), want)
	}
	for _, a := range grid {
		for _, b := range grid {
			for _, c := range grid {
				check(api.Polygon{a, b, c})
				for _, d := range grid {
					check(api.Polygon{a, b, c, d})
				}
			}
		}
	}
	if min(seen["3 true"], seen["3 false"], seen["4 true"], seen["4 false"]) < 200 {
		t.Errorf("numbers of shapes: %v", seen)
	}
}

// P9.1 (I1): random shapes within and around the bounds, with up to five corners.
func TestValidShapesAtRandom(t *testing.T) {
	r := rand.New(rand.NewSource(1))
	seen := map[string]int{}
	for range 100000 {
		var s api.Polygon
		for range 2 + r.Intn(4) {
			s = append(s, pt(drawIn(r, -11, 11), drawIn(r, -11, 11)))
		}
		want := isShape(s)
		seen[fmt.Sprint(len(s), want)]++
		checkValid(t, "shape", withShape(r.Intn(3), s), want)
	}
	if min(seen["3 true"], seen["4 true"]) < 1000 {
		t.Errorf("numbers of shapes: %v", seen)
	}
}

// P9.1 (I1): a corner of a valid shape at and beyond each bound.
func TestValidCornersAtTheBounds(t *testing.T) {
	for n := range 13 {
		for _, s := range []api.Polygon{
			{pt(0, 0), pt(n, 0), pt(0, 1)}, {pt(0, 0), pt(1, 0), pt(0, n)}, {pt(0, 0), pt(-n, 0), pt(0, -1)}, {pt(0, 0), pt(-1, 0), pt(0, -n)},
			{pt(-n, -1), pt(0, 0), pt(0, 1), pt(-n, 1)}, {pt(-1, -n), pt(1, -n), pt(2, 0), pt(-2, 0)},
		} {
			for i := range 3 {
				checkValid(t, "corner", withShape(i, s), 1 <= n && n <= 10)
			}
		}
	}
}

// P9.1 (I1): the places of parts: all triples of indices in and out of range.
func TestValidPlacesOfParts(t *testing.T) {
	indices := []int{math.MinInt, -2, -1, 0, 1, 2, 3, 4, 16, math.MaxInt}
	for _, x := range indices {
		for _, y := range indices {
			for _, z := range indices {
				c := withParts(3)
				c.Parts[0].Place, c.Parts[1].Place, c.Parts[2].Place = x, y, z
				inRange := min(x, y, z) >= 0 && max(x, y, z) <= 2
				checkValid(t, "places of parts", c, inRange && x != y && y != z && z != x)
			}
		}
	}
	c := withParts(1)
	c.Places = nil
	checkValid(t, "a part without any place", c, false)
}

// P9.1 (I1): belts: all lists of up to four indices in and out of range, and long ones.
func TestValidBelts(t *testing.T) {
	var extend func(belt []int)
	extend = func(belt []int) {
		c := withParts(3)
		c.Belt = belt
		checkValid(t, "belt", c, areValidNumbers(c))
		if len(belt) < 4 {
			for i := -1; i <= 3; i++ {
				extend(append(slices.Clone(belt), i))
			}
		}
	}
	extend(nil)
	c := withPlaces(16)
	for i := range 16 {
		c.Belt = append(c.Belt, 15-i)
	}
	checkValid(t, "a belt along all of 16 places", c, true)
	c.Belt[15] = 15
	checkValid(t, "the first place again at the end", c, false)
	c.Belt[15] = 16
	checkValid(t, "a place that does not exist at the end", c, false)
	c.Belt = slices.Repeat([]int{3}, 1000000)
	checkValid(t, "a very long belt", c, false)
	for _, n := range []int{math.MinInt, -17, 17, math.MaxInt} {
		c.Belt = []int{n}
		checkValid(t, "a belt along a place that does not exist", c, false)
	}
	c = withPlaces(0)
	c.Belt = []int{0}
	checkValid(t, "a belt without any place", c, false)
}

// P9.1 (I1): the period, the gap and the slow speed, at and beyond the ends of their ranges.
func TestValidNumbers(t *testing.T) {
	for n := -130; n <= 130; n++ {
		c := example()
		c.Period = n
		checkValid(t, "period", c, 0 <= n && n <= 100)
		c = example()
		c.Gap = n
		checkValid(t, "gap", c, 0 <= n && n <= 20)
		c = example()
		c.Slow = n
		checkValid(t, "slow", c, 1 <= n && n <= 8)
		c.Limits, c.Loaded = api.Limits{V: 1, A: 1, J: 1}, api.Limits{V: 1, A: 1, J: 1}
		checkValid(t, "slow above the limits", c, 1 <= n && n <= 8)
	}
	for _, n := range []int{math.MinInt, -1 << 40, 1 << 40, math.MaxInt} {
		for _, x := range []func(c *api.Cell){func(c *api.Cell) { c.Period = n }, func(c *api.Cell) { c.Gap = n }, func(c *api.Cell) { c.Slow = n }} {
			c := example()
			x(&c)
			checkValid(t, "a number at the ends of int", c, false)
		}
	}
}

// P9.1 (I1): all limits within and around their ranges, each pair of them for arms with and without a part.
func TestValidLimits(t *testing.T) {
	for _, x := range []struct {
		what  string
		most  int
		field func(l *api.Limits) *int
	}{
		{"speed", 8, func(l *api.Limits) *int { return &l.V }},
		{"acceleration", 4, func(l *api.Limits) *int { return &l.A }},
		{"jerk", 2, func(l *api.Limits) *int { return &l.J }},
	} {
		numbers := []int{math.MinInt, -1 << 40, 1 << 40, math.MaxInt}
		for n := -3; n <= 11; n++ {
			numbers = append(numbers, n)
		}
		for _, free := range numbers {
			for _, loaded := range numbers {
				c := example()
				c.Limits, c.Loaded = api.Limits{V: 8, A: 4, J: 2}, api.Limits{V: 1, A: 1, J: 1}
				*x.field(&c.Limits), *x.field(&c.Loaded) = free, loaded
				checkValid(t, x.what, c, 1 <= loaded && loaded <= free && free <= x.most)
			}
		}
	}
	c := example()
	c.Limits, c.Loaded = api.Limits{V: 3, A: 2, J: 1}, api.Limits{V: 3, A: 2, J: 1}
	checkValid(t, "equal limits", c, true)
	c.Loaded = api.Limits{V: 2, A: 3, J: 1}
	checkValid(t, "only the acceleration above the limit", c, false)
}

// P9.1 (I1): random valid cells, and the same with a number changed or an element removed, added or moved.
func TestValidForRandomCells(t *testing.T) {
	r := rand.New(rand.NewSource(2))
	seen := map[bool]int{}
	for range 3000 {
		c := drawCell(r)
		checkValid(t, "random cell", c, true)
		for range 8 {
			d := cloned(c)
			disturb(r, &d)
			want := isValid(d)
			checkValid(t, "disturbed cell", d, want)
			seen[want]++
		}
		if t.Failed() {
			return
		}
	}
	if min(seen[true], seen[false]) < 5000 {
		t.Errorf("numbers of valid and other cells: %v", seen)
	}
}

// disturb changes a cell at a random place.
func disturb(r *rand.Rand, c *api.Cell) {
	var all []reflect.Value
	leaves(c, func(where string, v reflect.Value) { all = append(all, v) })
	lists(c, func(where string, v reflect.Value) { all = append(all, v) })
	v := all[r.Intn(len(all))]
	switch v.Kind() {
	case reflect.Int:
		steps := []int64{-20, -16, -8, -2, -1, 1, 2, 8, 16, 20, unit, -unit}
		v.SetInt(v.Int() + steps[r.Intn(len(steps))])
	case reflect.String:
		names := []string{"", "x", v.String() + "_", v.String() + "é", "_" + v.String()}
		v.SetString(names[r.Intn(len(names))])
	case reflect.Slice:
		if n := v.Len(); n > 0 && r.Intn(2) == 0 {
			v.Set(v.Slice(0, n-1))
		} else if n > 0 {
			v.Set(reflect.Append(v, v.Index(r.Intn(n))))
		}
	}
}

// checkEqual compares Equal, in both orders, with want.
func checkEqual(t *testing.T, what string, a, b api.Cell, want bool) {
	t.Helper()
	if cell.Equal(a, b) != want || cell.Equal(b, a) != want {
		t.Errorf("%s: Equal(%v, %v) = %v, in reverse order %v, want %v", what, a, b, cell.Equal(a, b), cell.Equal(b, a), want)
	}
}

// differing calls f with pairs of cells that differ in one number or name, in the length of one list, and in the order of one list.
func differing(c api.Cell, f func(what string, a, b api.Cell)) {
	numbers, others := 0, 0
	leaves(&c, func(string, reflect.Value) { numbers++ })
	lists(&c, func(string, reflect.Value) { others++ })
	for i := range numbers {
		for _, by := range []int{1, -1, 1 << 40} {
			d, n := cloned(c), 0
			leaves(&d, func(where string, v reflect.Value) {
				if n == i && v.Kind() == reflect.Int {
					v.SetInt(v.Int() + int64(by))
					f(where, c, d)
				} else if n == i {
					v.SetString([]string{"", v.String() + "x", strings.ToUpper(v.String() + "x")}[(by+1)%3])
					f(where, c, d)
				}
				n++
			})
		}
	}
	for i := range others {
		for _, turn := range []func(v reflect.Value){
			func(v reflect.Value) { v.Set(v.Slice(0, v.Len()-1)) },
			func(v reflect.Value) { v.Set(v.Slice(1, v.Len())) },
			func(v reflect.Value) { v.Set(reflect.Append(v, v.Index(0))) },
			func(v reflect.Value) { v.SetZero() },
			func(v reflect.Value) { reflect.Swapper(v.Interface())(0, v.Len()-1) },
		} {
			d, n := cloned(c), 0
			lists(&d, func(where string, v reflect.Value) {
				if n == i {
					turn(v)
					n++
					if !reflect.DeepEqual(c, d) {
						f(where, c, d)
					}
					return
				}
				n++
			})
		}
	}
}

// P9.1 (I1): equal cells in other memory, with nil and with empty lists.
func TestEqualExamples(t *testing.T) {
	checkEqual(t, "the example", example(), cloned(example()), true)
	checkEqual(t, "bare cells", bare(), bare(), true)
	checkEqual(t, "zero cells", api.Cell{}, api.Cell{}, true)
	empty := api.Cell{Fixtures: []api.Polygon{}, Places: []api.Place{}, Parts: []api.Part{}, Belt: []int{}, Zones: []api.Zone{}}
	checkEqual(t, "nil and empty lists", api.Cell{}, empty, true)
	a, b := api.Cell{}, api.Cell{}
	a.Fixtures, a.Parts, a.Zones = []api.Polygon{nil}, []api.Part{{}}, []api.Zone{{}}
	b.Fixtures, b.Parts, b.Zones = []api.Polygon{{}}, []api.Part{{Shape: api.Polygon{}}}, []api.Zone{{Area: api.Polygon{}}}
	checkEqual(t, "nil and empty lists of corners", a, b, true)
	checkEqual(t, "a list of an empty list and no list", a, api.Cell{}, false)
	checkEqual(t, "the example and a bare cell", example(), bare(), false)
}

// P9.1 (I1): cells that differ in one number or name, in the length of one list or in the order of one list.
func TestEqualOfCellsThatDiffer(t *testing.T) {
	c := example()
	c.Zones = append(c.Zones, api.Zone{Area: square(1, 1, 1)})
	seen := map[string]int{}
	differing(c, func(what string, a, b api.Cell) {
		seen[what]++
		checkEqual(t, what, a, b, false)
		checkEqual(t, what, b, cloned(b), true)
	})
	for _, what := range []string{
		".Arms[1].Base.Y", ".Arms[0].Lens[2]", ".Arms[1].Wide", ".Arms[0].Low[0]", ".Arms[1].High[2]", ".Home[0][0]", ".Home[1][2]",
		".Fixtures", ".Fixtures[0]", ".Fixtures[1][2].X", ".Places", ".Places[3].Name", ".Places[0].At.Y", ".Places[0].Dir.X", ".Places[2].Dir.Y", ".Places[1].Dir.N",
		".Parts", ".Parts[0].Name", ".Parts[1].Shape", ".Parts[1].Shape[1].Y", ".Parts[2].Place", ".Belt", ".Belt[0]", ".Belt[1]", ".Period",
		".Limits.V", ".Limits.A", ".Limits.J", ".Loaded.V", ".Loaded.A", ".Loaded.J", ".Zones", ".Zones[0].Area", ".Zones[1].Area[3].X", ".Gap", ".Slow",
	} {
		if seen[what] < 3 {
			t.Errorf("only %d cells that differ in %s: %v", seen[what], what, seen)
		}
	}
}

// P9.1 (I1): random cells, valid and disturbed ones, against a comparison by reflection.
func TestEqualOfRandomCells(t *testing.T) {
	r := rand.New(rand.NewSource(3))
	seen := map[bool]int{}
	for range 3000 {
		c := drawCell(r)
		checkEqual(t, "copy", c, cloned(c), true)
		d := cloned(c)
		disturb(r, &d)
		want := same(c, d)
		seen[want]++
		checkEqual(t, "disturbed", c, d, want)
		checkEqual(t, "another cell", c, drawCell(r), false)
	}
	if seen[true] < 5 || seen[false] < 2000 {
		t.Errorf("numbers of equal and other cells: %v", seen)
	}
}

// checkInitialState compares InitialState with want.
func checkInitialState(t *testing.T, c api.Cell, want api.State) {
	t.Helper()
	got := cell.InitialState(c)
	if got.Q != want.Q || got.Held != want.Held || !slices.Equal(got.Where, want.Where) {
		t.Errorf("InitialState(%v) = %v, want %v", c, got, want)
	}
}

// P9.1 (I1): initial states of cells with and without parts.
func TestInitialState(t *testing.T) {
	checkInitialState(t, example(), api.State{Q: [2]api.Joints{{9, 0, 1}, {-9, 5, 0}}, Held: [2]int{-1, -1}, Where: []int{1, 3, 0}})
	checkInitialState(t, bare(), api.State{Q: [2]api.Joints{{9, 0, 1}, {-9, 5, 0}}, Held: [2]int{-1, -1}})
	r := rand.New(rand.NewSource(4))
	parts := 0
	for range 2000 {
		c := drawCell(r)
		want := api.State{Q: [2]api.Joints{c.Home[0], c.Home[1]}, Held: [2]int{-1, -1}, Where: make([]int, len(c.Parts))}
		for i := range c.Parts {
			want.Where[i] = c.Parts[i].Place
			parts++
		}
		checkInitialState(t, c, want)
	}
	if parts < 2000 {
		t.Errorf("only %d parts", parts)
	}
}

// checkPartAt compares PartAt with want.
func checkPartAt(t *testing.T, what string, p api.Part, at api.Point, d api.Direction, want api.Polygon) {
	t.Helper()
	if got := cell.PartAt(p, at, d); !slices.Equal(got, want) {
		t.Errorf("%s: PartAt(%v, %v, %v) = %v, want %v", what, p, at, d, got, want)
	}
}

// P9.1 (I2): outlines that are written out, for directions of all four quadrants and along the axes.
func TestPartAtExamples(t *testing.T) {
	bolt := example().Parts[0]
	nut := example().Parts[1]
	for _, x := range []struct {
		what string
		p    api.Part
		at   api.Point
		d    api.Direction
		want api.Polygon
	}{
		{"to the right", bolt, pt(0, 0), right, api.Polygon{units(-1, -2), units(3, -2), units(3, 4), units(-1, 4)}},
		{"upwards", bolt, pt(0, 0), up, api.Polygon{units(2, -1), units(2, 3), units(-4, 3), units(-4, -1)}},
		{"to the left", bolt, units(5, 5), left, api.Polygon{units(6, 7), units(2, 7), units(2, 1), units(6, 1)}},
		{"downwards", bolt, units(-7, 1), down, api.Polygon{units(-9, 2), units(-9, -2), units(-3, -2), units(-3, 2)}},
		{"turned by 63 and 16", nut, pt(7, -3), api.Direction{X: 266175, Y: 67600, N: 3}, api.Polygon{pt(7, -3), pt(7+53404000, -3-31772000), pt(7+3109600, -3+23457200)}},
		{"in the second quadrant", nut, pt(0, 0), api.Direction{X: -67600, Y: 266175, N: 3}, api.Polygon{pt(0, 0), pt(31772000, 53404000), pt(-23457200, 3109600)}},
		{"in the third quadrant", nut, pt(0, 16), api.Direction{X: -266175, Y: -67600, N: 3}, api.Polygon{pt(0, 16), pt(-53404000, 16+31772000), pt(-3109600, 16-23457200)}},
		{"in the fourth quadrant", nut, pt(-16, 0), api.Direction{X: 67600, Y: -266175, N: 3}, api.Polygon{pt(-16, 0), pt(-16-31772000, -53404000), pt(-16+23457200, -3109600)}},
		{"at the upper right end of the range", bolt, units(100, 100), right, api.Polygon{units(99, 98), units(103, 98), units(103, 104), units(99, 104)}},
		{"at the lower left end of the range", bolt, units(-100, -100), left, api.Polygon{units(-99, -98), units(-103, -98), units(-103, -104), units(-99, -104)}},
	} {
		checkPartAt(t, x.what, x.p, x.at, x.d, x.want)
	}
}

// outlines calls f with parts at positions and with directions: all directions, and positions near the origin and at the ends of the range.
func outlines(f func(p api.Part, at api.Point, d api.Direction)) {
	r := rand.New(rand.NewSource(5))
	shapes := []api.Polygon{
		{pt(-10, -10), pt(10, -10), pt(10, 10), pt(-10, 10)}, {pt(0, 0), pt(1, 0), pt(0, 1)}, {pt(10, 9), pt(10, 10), pt(9, 10)}, {pt(-10, -10), pt(-9, -10), pt(-10, -9)},
	}
	for range 20 {
		shapes = append(shapes, drawShape(r))
	}
	for _, s := range shapes {
		for _, d := range directions() {
			for _, at := range []api.Point{
				pt(0, 0), pt(16, -32), pt(1, -1), units(100, -100), units(-100, 100), pt(drawIn(r, -100*unit, 100*unit), drawIn(r, -100*unit, 100*unit)),
			} {
				f(api.Part{Name: "x", Shape: s, Place: r.Intn(3)}, at, d)
			}
		}
	}
}

// P9.1 (I2): each corner is the position plus the corner in the coordinate system of the direction and its left normal.
func TestPartAt(t *testing.T) {
	outlines(func(p api.Part, at api.Point, d api.Direction) {
		along, aside := pt(16*d.X, 16*d.Y), pt(-16*d.Y, 16*d.X)
		var want api.Polygon
		for _, corner := range p.Shape {
			there := at
			for range max(corner.X, -corner.X) {
				there = plus(there, pt(along.X*corner.X/max(corner.X, -corner.X), along.Y*corner.X/max(corner.X, -corner.X)))
			}
			for range max(corner.Y, -corner.Y) {
				there = plus(there, pt(aside.X*corner.Y/max(corner.Y, -corner.Y), aside.Y*corner.Y/max(corner.Y, -corner.Y)))
			}
			want = append(want, there)
		}
		checkPartAt(t, "outline", p, at, d, want)
	})
}

// P9.3: distances between corners, and between corners and the position, are those of the shape times Unit, and all orientations are preserved.
func TestPlacedPartsKeepTheirShape(t *testing.T) {
	outlines(func(p api.Part, at api.Point, d api.Direction) {
		outline := cell.PartAt(p, at, d)
		if len(outline) != len(p.Shape) {
			t.Fatalf("PartAt(%v, %v, %v) has %d corners", p, at, d, len(outline))
		}
		for i := range outline {
			for j := range outline {
				u, v := minus(outline[j], outline[i]), minus(p.Shape[j], p.Shape[i])
				if dot(u, u) != dot(v, v)*unit*unit {
					t.Fatalf("PartAt(%v, %v, %v) = %v, with another distance of corners %d and %d", p, at, d, outline, i, j)
				}
				w, x := minus(outline[j], at), minus(outline[i], at)
				if dot(w, x) != dot(p.Shape[j], p.Shape[i])*unit*unit || cross(w, x) != cross(p.Shape[j], p.Shape[i])*unit*unit {
					t.Fatalf("PartAt(%v, %v, %v) = %v, with other angles of corners %d and %d", p, at, d, outline, i, j)
				}
				for k := range outline {
					if geom.Orientation(outline[i], outline[j], outline[k]) != geom.Orientation(p.Shape[i], p.Shape[j], p.Shape[k]) {
						t.Fatalf("PartAt(%v, %v, %v) = %v, with another orientation of corners %d, %d and %d", p, at, d, outline, i, j, k)
					}
				}
			}
		}
	})
}

// P9.3: the outline of a part at a place of a valid cell is a valid polygon with the area of the shape.
func TestPlacedPartsAreValidPolygons(t *testing.T) {
	r := rand.New(rand.NewSource(6))
	parts := 0
	for range 1000 {
		c := drawCell(r)
		for _, p := range c.Parts {
			for _, place := range c.Places {
				outline := cell.PartAt(p, place.At, place.Dir)
				if !polygon.Valid(outline) || polygon.DoubleArea(outline) != polygon.DoubleArea(p.Shape)*unit*unit {
					t.Fatalf("PartAt(%v, %v, %v) = %v", p, place.At, place.Dir, outline)
				}
				parts++
			}
		}
	}
	for _, corner := range []api.Point{units(85, 85), units(-85, 85), units(85, -85), units(-85, -85)} {
		for _, d := range directions() {
			p := api.Part{Shape: api.Polygon{pt(-10, -10), pt(10, -10), pt(10, 10), pt(-10, 10)}}
			if outline := cell.PartAt(p, corner, d); !polygon.Valid(outline) {
				t.Fatalf("PartAt(%v, %v, %v) = %v", p, corner, d, outline)
			}
		}
	}
	if parts < 5000 {
		t.Errorf("only %d parts", parts)
	}
}

// P9.3: a translated position translates the outline.
func TestTranslatedParts(t *testing.T) {
	r := rand.New(rand.NewSource(7))
	outlines(func(p api.Part, at api.Point, d api.Direction) {
		there := pt(drawIn(r, -100*unit, 100*unit), drawIn(r, -100*unit, 100*unit))
		want := polygon.Translate(cell.PartAt(p, at, d), minus(there, at))
		checkPartAt(t, "translated", p, there, d, want)
	})
}

// P1: every call returns, also for cells that are not valid, whose numbers are at the ends of int.
func TestEveryCallReturns(t *testing.T) {
	numbers := []int64{math.MinInt, math.MinInt + 1, -1 << 40, -1, 0, 1, 16, 17, 1 << 40, 1 << 62, math.MaxInt}
	r := rand.New(rand.NewSource(8))
	for range 2000 {
		c := cloned(drawCell(r))
		leaves(&c, func(where string, v reflect.Value) {
			if r.Intn(5) > 0 {
				return
			}
			if v.Kind() == reflect.Int {
				v.SetInt(numbers[r.Intn(len(numbers))])
			} else {
				v.SetString([]string{"", " ", "\n", "a b", strings.Repeat("z", 100)}[r.Intn(5)])
			}
		})
		checkValid(t, "numbers at the ends of int", c, isValid(c))
		checkEqual(t, "numbers at the ends of int", c, cloned(c), true)
		cell.InitialState(c)
		cell.Parse(cell.Format(c))
		for _, p := range c.Parts {
			for _, place := range c.Places {
				cell.PartAt(p, place.At, place.Dir)
			}
		}
	}
	cell.Format(api.Cell{})
	cell.InitialState(api.Cell{})
	cell.PartAt(api.Part{}, api.Point{}, api.Direction{})
}

// P3: the functions do not change their arguments.
func TestArgumentsStay(t *testing.T) {
	r := rand.New(rand.NewSource(9))
	for i := range 500 {
		c := drawCell(r)
		if i%2 == 1 {
			disturb(r, &c)
			c.Parts = nil
			c.Belt = nil
		}
		before := cloned(c)
		cell.Valid(c)
		cell.Equal(c, example())
		cell.Equal(c, before)
		cell.InitialState(c)
		cell.Format(c)
		for _, p := range c.Parts {
			cell.PartAt(p, c.Places[0].At, c.Places[0].Dir)
		}
		if !reflect.DeepEqual(c, before) {
			t.Fatalf("%v became %v", before, c)
		}
	}
}

// P3: results are new memory: neither overwriting nor extending one changes an argument, another list of it or a later result.
func TestResultsAreNew(t *testing.T) {
	c := example()
	w := cell.InitialState(c)
	w.Where[0] = 77
	checkInitialState(t, c, api.State{Q: c.Home, Held: [2]int{-1, -1}, Where: []int{1, 3, 0}})
	outline := cell.PartAt(c.Parts[1], units(1, 1), right)
	outline[0] = pt(5, 5)
	checkPartAt(t, "after a result was overwritten", c.Parts[1], units(1, 1), right, api.Polygon{units(1, 1), units(11, -9), units(3, 6)})
	if !reflect.DeepEqual(c, example()) {
		t.Errorf("the cell became %v", c)
	}
	n := 0
	lists(&c, func(string, reflect.Value) { n++ })
	for i := range n {
		got, _ := cell.Parse(cell.Format(example()))
		want := cloned(got)
		for _, d := range []*api.Cell{&got, &want} {
			j := 0
			lists(d, func(where string, v reflect.Value) {
				if j == i {
					first := v.Index(0)
					extended := v
					for range 20 {
						extended = reflect.Append(extended, first)
					}
					first.SetZero()
				}
				j++
			})
		}
		if !reflect.DeepEqual(got, want) {
			t.Errorf("list %d of a result shares memory with another: %v, want %v", i, got, want)
		}
		again, _ := cell.Parse(cell.Format(example()))
		checkEqual(t, "after a result was overwritten", again, example(), true)
	}
}

// P3: results depend on the arguments only, not on other calls, in whatever order and at whatever time they are made.
func TestResultsDependOnArgumentsOnly(t *testing.T) {
	r := rand.New(rand.NewSource(10))
	var cells []api.Cell
	for range 200 {
		cells = append(cells, drawCell(r))
	}
	var wait sync.WaitGroup
	for worker := range 4 {
		order := rand.New(rand.NewSource(int64(worker))).Perm(len(cells))
		wait.Go(func() {
			for _, i := range order {
				c := cells[i]
				text := cell.Format(c)
				got, l := cell.Parse(text)
				if text != textOf(c) || len(l) > 0 || !same(got, c) || !cell.Valid(c) || !cell.Equal(c, got) {
					t.Errorf("%v and its text %q are not always the same", c, text)
				}
				if got, l := cell.Parse(text[:len(text)-1]); !same(got, api.Cell{}) || !slices.Equal(l, []api.Diagnostic{{Err: api.ErrEnd, At: len(text) - 1}}) {
					t.Errorf("the diagnostics for %q are %v", text[:len(text)-1], l)
				}
			}
		})
	}
	wait.Wait()
}
