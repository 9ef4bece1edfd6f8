package collision_test

import (
	"fmt"
	"math"
	"math/rand"
	"slices"
	"testing"

	"ambidexter/api"
	"ambidexter/cell"
	"ambidexter/collision"
)

// bench is a cell with four places, three parts and two fixtures, in which no bodies touch at home.
const bench = `arm -43940000 0 10 5 5 1 -17 -17 -17 18 18 18 9 0 0
arm 43940000 0 10 5 5 1 -17 -17 -17 18 18 18 9 0 0
fixture -4394000 -4394000 4394000 -4394000 0 4394000
fixture -439400000 -439400000 -435006000 -439400000 -439400000 -435006000
place north 0 43940000 0 274625
place east 131820000 0 274625 0
place south 0 -43940000 0 -274625
place west -131820000 0 -274625 0
part nut south 1 -1 2 -1 2 2 1 2
part bolt north -1 -1 1 -1 0 1
part cap west 0 0 3 0 0 2
belt 0
limits 8 4 2
loaded 8 4 2
guard 0 8
`

// The indices of the places of bench.
const (
	north = iota
	east
	south
	west
)

// The indices of the parts of bench.
const (
	nut = iota
	bolt
	capPart
)

// checkState compares ValidState with want.
func checkState(t *testing.T, what string, c api.Cell, w api.State, want bool) {
	t.Helper()
	if !cell.Valid(c) {
		t.Fatalf("%s: the cell is not valid", what)
	}
	if isState(c, w) != want {
		t.Fatalf("%s: the test expects %v of %v", what, want, w)
	}
	if collision.ValidState(c, w) != want {
		t.Errorf("%s: ValidState of %v is not %v", what, w, want)
	}
}

// P14.1 (N1): states with no, one and two held parts, and with lost parts, are valid.
func TestValidStates(t *testing.T) {
	c := described(t, bench)
	w := cell.InitialState(c)
	checkState(t, "the initial state", c, w, true)
	checkState(t, "a part elsewhere", c, resting(w, nut, east), true)
	checkState(t, "a lost part", c, resting(w, nut, -1), true)
	checkState(t, "two lost parts", c, resting(resting(w, nut, -1), capPart, -1), true)
	checkState(t, "all parts lost", c, resting(resting(resting(w, nut, -1), capPart, -1), bolt, -1), true)
	for k := range 2 {
		checkState(t, "a held part", c, holding(w, k, bolt), true)
		checkState(t, "two held parts", c, holding(holding(w, k, bolt), 1-k, capPart), true)
		checkState(t, "two held parts and a lost one", c, resting(holding(holding(w, k, bolt), 1-k, capPart), nut, -1), true)
	}
	checkState(t, "the place of a held part is taken", c, resting(holding(w, 0, bolt), nut, north), true)
}

// P14.1 (N1): states need not be free of collisions to be valid.
func TestValidStateWithCollisions(t *testing.T) {
	c := described(t, bench)
	w := standing(standing(cell.InitialState(c), 0, api.Joints{}), 1, api.Joints{18})
	if collision.IsFree(c, w) {
		t.Error("no collisions")
	}
	checkState(t, "collisions", c, w, true)
}

// P14.1 (N1): each joint of each arm at each of its limits and beyond them.
func TestValidStateJoints(t *testing.T) {
	c := described(t, bench)
	c.Arms[0].Low, c.Arms[0].High, c.Home[0] = api.Joints{-3, 2, -17}, api.Joints{9, 5, -1}, api.Joints{0, 3, -2}
	c.Arms[1].Low, c.Arms[1].High, c.Home[1] = api.Joints{10, -17, 0}, api.Joints{18, -17, 7}, api.Joints{12, -17, 4}
	w := cell.InitialState(c)
	for n := range 6 {
		k, joint := n/3, n%3
		low, high := c.Arms[k].Low[joint], c.Arms[k].High[joint]
		for value := -60; value <= 60; value++ {
			x := cloned(w)
			x.Q[k][joint] = value
			checkState(t, "a joint value", c, x, low <= value && value <= high)
		}
		for _, value := range []int{math.MinInt, low - 1<<32, high + 1<<32, math.MaxInt} {
			x := cloned(w)
			x.Q[k][joint] = value
			checkState(t, "a joint value far away", c, x, false)
		}
	}
	checkState(t, "all joints at their lower limits", c, standing(standing(w, 0, c.Arms[0].Low), 1, c.Arms[1].Low), true)
	checkState(t, "all joints at their upper limits", c, standing(standing(w, 0, c.Arms[0].High), 1, c.Arms[1].High), true)
	checkState(t, "the joint values of the arms exchanged", c, standing(standing(w, 0, w.Q[1]), 1, w.Q[0]), false)
}

// P14.1 (N1): all pairs of held parts in and around the range, while all parts are lost.
func TestValidStateHeld(t *testing.T) {
	c := described(t, bench)
	numbers := []int{math.MinInt, -1 << 32, -3, -2, -1, 0, 1, 2, 3, 4, 1 << 32, math.MaxInt}
	for _, a := range numbers {
		for _, b := range numbers {
			w := api.State{Q: c.Home, Held: [2]int{a, b}, Where: []int{-1, -1, -1}}
			want := a >= -1 && a < 3 && b >= -1 && b < 3 && (a != b || a == -1)
			checkState(t, "held parts", c, w, want)
		}
	}
	c.Parts = nil
	for _, a := range numbers {
		for k := range 2 {
			w := api.State{Q: c.Home, Held: [2]int{-1, -1}}
			w.Held[k] = a
			checkState(t, "a held part where there are none", c, w, a == -1)
		}
	}
}

// P14.1 (N1): Where with too few and too many entries, nil and empty ones included.
func TestValidStateLengthOfWhere(t *testing.T) {
	c := described(t, bench)
	for _, place := range []int{-1, 0} {
		for n := range 6 {
			w := api.State{Q: c.Home, Held: [2]int{-1, -1}, Where: slices.Repeat([]int{-1}, n)}
			if n > 0 {
				w.Where[n-1] = place
			}
			checkState(t, "a number of entries", c, w, n == 3)
			for part := range 3 {
				w.Held = [2]int{-1, part}
				checkState(t, "a number of entries while a part is held", c, w, n == 3 && w.Where[part] == -1)
			}
		}
	}
	checkState(t, "nil", c, api.State{Q: c.Home, Held: [2]int{-1, -1}}, false)
	for _, places := range [][]api.Place{c.Places, nil} {
		bare := c
		bare.Places, bare.Parts = places, nil
		for _, where := range [][]int{nil, {}, make([]int, 0, 4)} {
			checkState(t, "no parts", bare, api.State{Q: c.Home, Held: [2]int{-1, -1}, Where: where}, true)
		}
		for _, where := range [][]int{{-1}, {0}, {-1, -1}} {
			checkState(t, "an entry without a part", bare, api.State{Q: c.Home, Held: [2]int{-1, -1}, Where: where}, false)
		}
	}
}

// P14.1 (N1): entries of Where in and around the range, for each part.
func TestValidStateEntries(t *testing.T) {
	c := described(t, bench)
	c.Places = append(c.Places, api.Place{Name: "more", Dir: api.Direction{X: 274625, N: 3}})
	w := api.State{Q: c.Home, Held: [2]int{-1, -1}, Where: []int{-1, -1, -1}}
	for part := range c.Parts {
		for _, place := range []int{math.MinInt, -1 << 32, -3, -2, -1, 0, 1, 2, 3, 4, 5, 6, 16, 1 << 32, math.MaxInt} {
			checkState(t, "an entry", c, resting(w, part, place), place >= -1 && place <= 4)
		}
	}
	for part := range c.Parts {
		for other := range part {
			for place := -1; place < 5; place++ {
				checkState(t, "two equal entries", c, resting(resting(w, part, place), other, place), place == -1)
			}
		}
	}
}

// P14.1 (N1): a held part must have the entry -1, while those of other parts may be anything.
func TestValidStateHeldAtPlace(t *testing.T) {
	c := described(t, bench)
	w := cell.InitialState(c)
	for k := range 2 {
		for part := range c.Parts {
			x := cloned(w)
			x.Held[k] = part
			checkState(t, "a held part that is at its place", c, x, false)
			for place := range c.Places {
				checkState(t, "a held part at a place", c, resting(x, part, place), false)
			}
			checkState(t, "a held part that is at no place", c, holding(w, k, part), true)
			x = holding(w, 1-k, (part+1)%3)
			x.Held[k] = part
			checkState(t, "the part of one arm is at a place", c, x, false)
		}
	}
}

// P14.1 (N1): all states of two parts and two places with numbers in and around the range; some cells have fewer parts or places.
func TestValidStateEverywhere(t *testing.T) {
	full := described(t, bench)
	full.Places, full.Parts = full.Places[:2], full.Parts[:2]
	full.Parts[0].Place, full.Parts[1].Place = 1, 0
	fewer := full
	fewer.Places, fewer.Parts = full.Places[:1], []api.Part{full.Parts[1]}
	bare := full
	bare.Places, bare.Parts = full.Places, nil
	valid := 0
	for _, c := range []api.Cell{full, fewer, bare} {
		for n := range 5 * 5 * 31 {
			w := api.State{Q: c.Home, Held: [2]int{n%5 - 2, n/5%5 - 2}}
			for m := n / 25; m > 0; m = (m - 1) / 5 {
				w.Where = append(w.Where, (m-1)%5-2)
			}
			want := isState(c, w)
			checkState(t, "a state", c, w, want)
			if want {
				valid++
			}
		}
	}
	if valid != 7+4*3+2+3+1+1 {
		t.Errorf("%d valid states", valid)
	}
}

// P14.1 (N1), P14.2: no body of a valid cell is out of range: parts at the outermost places in all directions of a list, and arms with the longest links and as far from the origin as permitted.
func TestBodiesOfValidCellsAreInRange(t *testing.T) {
	c := described(t, bench)
	for i := range c.Parts {
		c.Parts[i].Shape = poly(-10, -10, 10, -10, 10, 10, -10, 10)
	}
	for k, x := range []int{-1, 1} {
		c.Arms[k].Lens, c.Arms[k].Wide = [3]int{40, 12, 6}, 4
		c.Arms[k].Base = pt(unit*143/8*x, -unit*143/8*x)
		c.Arms[k].Base.X -= c.Arms[k].Base.X % 16
		c.Arms[k].Base.Y -= c.Arms[k].Base.Y % 16
	}
	for n := range 36 {
		for i := range c.Places {
			x := posesOf(c.Arms[0], api.Joints{n - 17, n / 3, i - n/2})
			c.Places[i].At = units(85*(i%2*2-1), 85*(i/2*2-1))
			c.Places[i].Dir = x[2].d
		}
		for k := range 2 {
			w := holding(cell.InitialState(c), k, n%3)
			w.Q[k] = api.Joints{n - 17, 0, n / 9}
			checkState(t, "outermost", c, w, true)
		}
	}
}

// beyond checks ValidState for a cell with a body at the edge of the range, and for one in which it is one step or more beyond. There are no such valid cells, but for fixtures at the edge.
func beyond(t *testing.T, what string, change func(by int) (api.Cell, api.State)) {
	t.Helper()
	for _, by := range []int{-16, -1, 0, 1, 16, unit, 1 << 40} {
		c, w := change(by)
		if collision.ValidState(c, w) != (by <= 0) {
			t.Errorf("%s, %d beyond: ValidState is not %v", what, by, by <= 0)
		}
	}
}

// outward is the vector of n steps in a direction: to the right, up, to the left or down.
func outward(direction, n int) api.Point {
	return []api.Point{pt(n, 0), pt(0, n), pt(-n, 0), pt(0, -n)}[direction]
}

// P14.1 (N1): the tips and the elbows of both arms at each end of the range and beyond it.
func TestValidStateLinksInRange(t *testing.T) {
	for n := range 8 {
		k, direction := n/4, n%4
		first := []int{0, 9, 18, -9}[direction]
		for i, q := range []api.Joints{{first, 0, 0}, {first, 0, 18}, {first, 18, 0}} {
			reach := []int{20, 15, 10}[i] * unit
			beyond(t, fmt.Sprintf("link %d of arm %d, direction %d", 2-i, k, direction), func(by int) (api.Cell, api.State) {
				c := described(t, bench)
				c.Arms[k].Base = outward(direction, far-reach+by)
				return c, standing(cell.InitialState(c), k, q)
			})
		}
	}
}

// P14.1 (N1): parts held by both arms at each end of the range and beyond it.
func TestValidStateCarriedInRange(t *testing.T) {
	for n := range 8 {
		k, direction := n/4, n%4
		beyond(t, fmt.Sprintf("the part of arm %d, direction %d", k, direction), func(by int) (api.Cell, api.State) {
			c := described(t, bench)
			c.Arms[k].Base = outward(direction, far-22*unit+by)
			w := holding(cell.InitialState(c), k, nut)
			return c, standing(w, k, api.Joints{[]int{0, 9, 18, -9}[direction], 0, 0})
		})
	}
}

// P14.1 (N1): resting parts at each end of the range and beyond it; a place where no part is does not matter.
func TestValidStateRestingInRange(t *testing.T) {
	for direction := range 4 {
		at := func(by int) api.Cell {
			c := described(t, bench)
			d := outward(direction, 65*65*65)
			c.Places[east].At, c.Places[east].Dir = outward(direction, far-2*unit+by), api.Direction{X: d.X, Y: d.Y, N: 3}
			return c
		}
		beyond(t, fmt.Sprintf("a resting part, direction %d", direction), func(by int) (api.Cell, api.State) {
			return at(by), resting(cell.InitialState(at(by)), nut, east)
		})
		if c := at(unit); !collision.ValidState(c, cell.InitialState(c)) {
			t.Error("a place out of range without a part")
		}
	}
}

// P14.1 (N1): each corner of fixtures at each end of the range and beyond it.
func TestValidStateFixturesInRange(t *testing.T) {
	for n := range 24 {
		i, direction, corner := n/12, n/3%4, n%3
		beyond(t, fmt.Sprintf("corner %d of fixture %d, direction %d", corner, i, direction), func(by int) (api.Cell, api.State) {
			c := described(t, bench)
			c.Fixtures[i][corner] = outward(direction, far+by)
			return c, cell.InitialState(c)
		})
	}
	c := described(t, bench)
	c.Fixtures[0] = poly(-far, -far, far, -far, far, far, -far, far)
	checkState(t, "a fixture as large as the range", c, cell.InitialState(c), true)
}

// P14.1 (N1): random states of random cells, most of them with a number changed.
func TestValidStateRandom(t *testing.T) {
	r := rand.New(rand.NewSource(14))
	count := map[bool]int{}
	for range 1500 {
		c := drawCell(r)
		for range 8 {
			w := drawState(r, c)
			checkState(t, "random", c, w, true)
			for n := range 1 + r.Intn(2) {
				switch r.Intn(3 + n) {
				case 0:
					w.Q[r.Intn(2)][r.Intn(3)] = drawIn(r, -19, 19)
				case 1:
					w.Held[r.Intn(2)] = drawIn(r, -2, len(c.Parts))
				case 2:
					w.Where = append(w.Where[:max(0, len(w.Where)-r.Intn(2))], drawIn(r, -2, len(c.Places)))
				}
			}
			want := isState(c, w)
			checkState(t, "random, with changes", c, w, want)
			count[want]++
		}
	}
	if count[true] < 1000 || count[false] < 1000 {
		t.Error(count)
	}
}
