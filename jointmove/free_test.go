package jointmove_test

import (
	"fmt"
	"math"
	"math/rand"
	"reflect"
	"slices"
	"sync"
	"testing"

	"ambidexter/api"
	"ambidexter/cell"
	"ambidexter/collision"
	"ambidexter/hull"
	"ambidexter/jointmove"
)

// checkFree checks that a move is free.
func checkFree(t *testing.T, what string, c api.Cell, w api.State, m api.Move) {
	t.Helper()
	if !checkMove(t, what, c, w, m) {
		o, _ := jointmove.FindObstruction(c, w, m)
		t.Errorf("%s: %v in %v is not free: %v", what, m, w, o)
	}
}

// checkBlocked checks that a valid move is not free, and what its obstruction is: the pair, with a star behind the body that moves, and the indices of the parts.
func checkBlocked(t *testing.T, what string, c api.Cell, w api.State, m api.Move, want string) api.Obstruction {
	t.Helper()
	checkMove(t, what, c, w, m)
	o, ok := jointmove.FindObstruction(c, w, m)
	if !ok || o.Node != 0 || o.Move != m {
		t.Errorf("%s: the obstruction of %v in %v is %v, %v", what, m, w, o, ok)
		return o
	}
	got := fmt.Sprintf("%s %d %d", labelOf(jointmove.SweptPairs(c, w, m)[o.Pair], m), o.A, o.B)
	if got != want || jointmove.IsFree(c, w, m) {
		t.Errorf("%s: the obstruction of %v in %v is %s, want %s", what, m, w, got, want)
	}
	return o
}

// P15.1: the chapter's first example. The arms are such that their own links cannot touch each other.
func TestArmsFarApart(t *testing.T) {
	c := yard()
	for k := range c.Arms {
		c.Arms[k].Lens = [3]int{2, 12, 3}
	}
	for k := range 2 {
		for n := range 36 * 36 {
			w := standing(cell.InitialState(c), k, api.Joints{n%36 - 17, n/36 - 17, 5 - n%23})
			for _, m := range moves() {
				if _, valid := jointmove.Next(c, w, m); jointmove.IsFree(c, w, m) != valid {
					t.Fatalf("%v in %v is valid: %v, but not free", m, w, valid)
				}
			}
			checkMove(t, "far apart", c, w, moves()[n%12])
		}
	}
}

// P15.1: the chapter's second example: a fixture in the path of each link when each joint moves, between both of its positions.
func TestFixtureInPath(t *testing.T) {
	for n := range 18 {
		k, joint, link := n/9, n/3%3, n%3
		if link < joint {
			continue
		}
		c := yard()
		w := standing(cell.InitialState(c), k, api.Joints{})
		// The direction (8, 1), with the length 8.0623, is half a step from both positions, as the first rotation is (63, 16). It leaves the gap between them at the end of the link: 9.5, 19.5 and 29.5 units from the joint, half a unit before the next link begins.
		n := []int{11783, 24187, 36590}[link-joint] * unit / 10000
		at := plus(plus(c.Arms[k].Base, units(10*joint, 0)), pt(8*n, n))
		c = fixture(c, moved(poly(0, 0, unit/99, 0, 0, unit/99), at))
		m := api.Move{Arm: k, Joint: joint, By: 1}
		what := fmt.Sprintf("link %d of arm %d, joint %d", link, k, joint)
		checkBlocked(t, what, c, w, m, fmt.Sprintf("L%d%d*-F0 0 0", k, link))
		next, _ := jointmove.Next(c, w, m)
		checkBlocked(t, what, c, next, opposite(m), fmt.Sprintf("L%d%d*-F0 0 0", k, link))
		if !collision.IsFree(c, w) || !collision.IsFree(c, next) {
			t.Errorf("%s: the ends of the move are not free", what)
		}
		checkFree(t, what+", the other way", c, w, opposite(m))
		if joint > 0 {
			checkFree(t, what+", the joint before", c, next, api.Move{Arm: k, Joint: joint - 1, By: 1})
		}
	}
}

// P15.1: the region is larger than what the link passes through: a fixture in it that is farther away than any corner blocks the move, too.
func TestFixtureBeyondArc(t *testing.T) {
	c, w, m := level()
	c = fixture(c, scaled(grid, 700, 60, 701, 60, 700, 61))
	checkBlocked(t, "beyond the arc", c, w, m, "L02*-F0 0 0")
	checkFree(t, "beyond the arc, the other way", c, w, opposite(m))
}

// nearLevel are fixtures that touch what joint 2 of level sweeps. A step to the right, they do not.
func nearLevel() map[string]api.Polygon {
	tip := pt(729*grid, 18*grid)
	// The edge from the tip to (711, 162) has the direction (-1, 8), and (8, 1) leads away from it.
	middle := pt(720*grid, 90*grid)
	side := func(k, n int) api.Point { return plus(middle, pt(8*n-k, n+8*k)) }
	return map[string]api.Polygon{
		"corner at corner":      {tip, plus(tip, pt(9, -3)), plus(tip, pt(9, 3))},
		"corner at edge":        {middle, side(-2, 5), side(2, 5)},
		"edge at edge":          {side(-5, 0), side(-5, 3), side(5, 3), side(5, 0)},
		"longer edge at edge":   {side(-10*grid, 0), side(0, 3), side(10*grid, 0)},
		"part of an edge":       {side(0, 0), side(0, 3), side(20*grid, 0)},
		"edge at corner":        poly(tip.X, tip.Y-9, tip.X+9, tip.Y, tip.X, tip.Y+9),
		"edges at corner":       {tip, plus(tip, pt(9, 0)), plus(tip, pt(0, 9))},
		"a corner of two edges": poly(tip.X, tip.Y, tip.X, tip.Y-grid, tip.X+9, tip.Y),
	}
}

// P15.1 (O3), P15.4: fixtures that touch the region of a link in a corner or along an edge only, that miss it by a step, and that reach into it by a step.
func TestNearFixtures(t *testing.T) {
	for what, f := range nearLevel() {
		c, w, m := level()
		o := checkBlocked(t, what, fixture(c, f), w, m, "L02*-F0 0 0")
		if o.Pair != 4 || o.Touch.Kind != api.EdgesCross {
			t.Errorf("%s: %v", what, o)
		}
		checkFree(t, what+", a step away", fixture(c, moved(f, pt(1, 0))), w, m)
		checkBlocked(t, what+", a step nearer", fixture(c, moved(f, pt(-1, 0))), w, m, "L02*-F0 0 0")
		checkFree(t, what+", the other way", fixture(c, f), w, opposite(m))
	}
}

// P15.1 (O4): all fields of obstructions, with each kind of contact.
func TestContacts(t *testing.T) {
	c, w, m := level()
	for _, x := range []struct {
		area  api.Polygon
		touch api.Contact
	}{
		{nearLevel()["corner at corner"], api.Contact{Kind: api.EdgesCross, I: 3, J: 0}},
		{nearLevel()["corner at edge"], api.Contact{Kind: api.EdgesCross, I: 4, J: 0}},
		{nearLevel()["edge at edge"], api.Contact{Kind: api.EdgesCross, I: 4, J: 0}},
		{inUnits(2, -90, 90, -90, 2, -1), api.Contact{Kind: api.EdgesCross, I: 2, J: 1}},
		{inUnits(-40, -40, 40, -40, 0, 60), api.Contact{Kind: api.FirstInSecond}},
		{inUnits(5, 0, 6, 0, 5, 1), api.Contact{Kind: api.SecondInFirst}},
	} {
		want := api.Obstruction{Node: 0, Move: m, Pair: 4, A: 0, B: 0, Touch: x.touch}
		if o := checkBlocked(t, "a contact", fixture(c, x.area), w, m, "L02*-F0 0 0"); o != want {
			t.Errorf("the obstruction for %v is %v, want %v", x.area, o, want)
		}
	}
	for _, m := range moves()[6:] {
		checkFree(t, "the other arm", fixture(c, inUnits(5, 0, 6, 0, 5, 1)), w, m)
	}
}

// P15.1 (O3): the separators of a move: edges of the region, which is A or B of its pair, and edges of the other body.
func TestSeparators(t *testing.T) {
	c, w, m := level()
	c = fixture(fixture(c, inUnits(15, -1, 18, -1, 18, 1, 15, 1)), inUnits(12, -40, 20, -40, 20, 40, 12, 40))
	c = fixture(c, inUnits(0, 10, 1, 10, 1, 11))
	checkFree(t, "separators", c, w, m)
	l, ok := jointmove.Certificate(c, w, m)
	// Edge 3 of the region leads up to the right from (10, -1), edge 4 steeply up to the left, and edge 5 from there to the turned corner. The second fixture is too large for them.
	want := []api.Separator{{Of: 0, Edge: 1}, {Of: 0, Edge: 4}, {Of: 0, Edge: 4}, {Of: 0, Edge: 3}, {Of: 0, Edge: 3}, {Of: 1, Edge: 3}, {Of: 0, Edge: 5}}
	if !ok || !slices.Equal(l, want) {
		t.Errorf("the certificate is %v, %v, want %v", l, ok, want)
	}
}

// angle is a fixture with four parts: the halves of a bar upwards, and those of a bar to the left that begins below it. Only the last part has the corner at the given point, the left upper end of the latter.
func angle(at api.Point) api.Polygon {
	return moved(inUnits(4, -1, 4, 3, 3, 3, 3, 0, 0, 0, 0, -1), at)
}

// P15.1 (O3): a fixture with a notch is kept apart part by part, although its box contains the link.
func TestNotch(t *testing.T) {
	c, w, m := level()
	c = fixture(c, inUnits(-8, -5, 15, -5, 15, 8, -8, 8, -8, 6, 13, 6, 13, -3, -8, -3))
	checkFree(t, "a notch", c, w, m)
	l, _ := jointmove.Certificate(c, w, m)
	if parts := len(hull.Decompose(c.Fixtures[0])); parts != 6 || len(l) != 4+parts {
		t.Errorf("%d separators for %d parts", len(l), parts)
	}
	m.Joint = 1
	checkFree(t, "joint 1 in a notch", c, w, m)
	m.Joint = 0
	checkBlocked(t, "joint 0 in a notch", c, w, m, "L02*-F0 0 1")
}

// P15.1 (O3, O4): the last check alone fails: that of the last part of the last fixture.
func TestLastCheckFails(t *testing.T) {
	c, w, m := level()
	c = fixture(fixture(c, angle(units(20, 0))), angle(pt(729*grid, 18*grid)))
	o := checkBlocked(t, "the last check", c, w, m, "L02*-F1 0 3")
	if all := checksOf(pairsOf(c, w, m)); o.Pair != 5 || len(all) != 4+4+4 || !all[11].meet {
		t.Errorf("%d checks, obstruction %v", len(all), o)
	}
	c.Fixtures[1] = moved(c.Fixtures[1], pt(1, 0))
	checkFree(t, "the last check, a step away", c, w, m)
	// The corner (12, -1) of the part turns to (772, 129) on the grid; the point beyond its arc is (873, 36).
	c = part(c, poly(0, -1, 2, -1, 2, 1), units(-60, -60))
	w.Held, w.Where = [2]int{0, -1}, []int{-1}
	c.Fixtures[1] = angle(pt(873*grid, 36*grid))
	o = checkBlocked(t, "the last check of a carried part", c, w, m, "C0*-F1 0 3")
	if all := checksOf(pairsOf(c, w, m)); o.Pair != 11 || len(all) != 2+3+8+3+8 {
		t.Errorf("%d checks, obstruction %v", len(all), o)
	}
	c.Fixtures[1] = moved(c.Fixtures[1], pt(1, 0))
	checkFree(t, "the last check of a carried part, a step away", c, w, m)
}

// P15.1 (O3, O4): the first check alone fails: that of links 0 and 2 of arm 0, when link 2 folds back.
func TestFirstCheckFails(t *testing.T) {
	c := yard()
	c.Arms[0].Lens = [3]int{10, 3, 5}
	w := standing(cell.InitialState(c), 0, api.Joints{9, -9, -9})
	m := api.Move{Arm: 0, Joint: 2, By: -1}
	if !collision.IsFree(c, w) {
		t.Error("link 2 touches link 0 before it moves")
	}
	if o := checkBlocked(t, "folding", c, w, m, "L00-L02* 0 0"); o.Pair != 0 {
		t.Errorf("the obstruction is %v", o)
	}
	checkFree(t, "unfolding", c, w, opposite(m))
	checkFree(t, "joint 0", c, w, api.Move{By: 1})
	checkBlocked(t, "folding at joint 1", c, w, api.Move{Joint: 1, By: -1}, "L00-L02* 0 0")
}

// P15.1 (O3, O4): of several checks that fail, the first one is reported: by the pair, then by the part of its second body.
func TestSeveralChecksFail(t *testing.T) {
	c, w, m := level()
	around := inUnits(-5, -5, 15, -5, 15, 5, -5, 5)
	many := fixture(fixture(fixture(c, inUnits(50, -50, 60, -50, 60, -40)), angle(units(3, -2))), around)
	o := checkBlocked(t, "two fixtures", many, w, m, "L02*-F1 0 0")
	if o.Pair != 5 {
		t.Errorf("the obstruction is %v", o)
	}
	many.Fixtures[1], many.Fixtures[2] = many.Fixtures[2], many.Fixtures[1]
	checkBlocked(t, "two fixtures", many, w, m, "L02*-F1 0 0")
	many.Fixtures = many.Fixtures[1:]
	checkBlocked(t, "two fixtures", many, w, m, "L02*-F0 0 0")
	m.Joint = 0
	checkBlocked(t, "all links", many, w, m, "L01*-F0 0 0")
	c = fixture(c, angle(units(9, 0)))
	m.Joint = 2
	checkBlocked(t, "the bar to the left", c, w, m, "L02*-F0 0 2")
	meeting := 0
	for _, k := range checksOf(pairsOf(c, w, m)) {
		if k.meet {
			meeting++
		}
	}
	if meeting != 2 {
		t.Errorf("%d checks fail", meeting)
	}
}

// P15.1 (O3, O4): the first body of a pair has one part in all valid cells, as parts are convex and fixtures come last. One that has several, in a cell that is not valid, is gone through in their order.
func TestSeveralPartsOfFirstBody(t *testing.T) {
	c, w, _ := level()
	c = part(part(c, poly(0, 1, 0, -3, 1, -3, 1, 0, 4, 0, 4, 1), units(-60, -60)), poly(0, -1, 2, -1, 2, 1), units(-60, -50))
	if cell.Valid(c) {
		t.Error("the cell is valid")
	}
	w.Held, w.Where, w.Q[1] = [2]int{0, 1}, []int{-1, -1}, api.Joints{18}
	m := api.Move{Arm: 1, Joint: 2, By: 1}
	count := map[string]int{}
	for n := range 24 * 24 {
		c.Arms[1].Base = units(36+n%24, n/24-12)
		if checkFunctions(t, "several parts", c, w, m) {
			count["free"]++
			continue
		}
		o, _ := jointmove.FindObstruction(c, w, m)
		count[fmt.Sprintf("%s %d %d", labelOf(jointmove.SweptPairs(c, w, m)[o.Pair], m), o.A, o.B)]++
	}
	for _, name := range []string{"free", "L12*-C0 0 0", "L12*-C0 0 2", "C0-C1* 0 0", "C0-C1* 2 0", "C0-C1* 3 0"} {
		if count[name] == 0 {
			t.Errorf("%s: %v", name, count)
		}
	}
}

// P15.1 (O2, O3): bodies that touch do not matter if both of them move or neither does; the successor state is not free of collisions either.
func TestCollisionsElsewhere(t *testing.T) {
	c := yard()
	c.Arms[0].Lens = [3]int{10, 1, 5}
	w := standing(cell.InitialState(c), 0, api.Joints{9, -9, -9})
	for _, m := range moves() {
		next, _ := jointmove.Next(c, w, m)
		if collision.IsFree(c, w) {
			t.Error("links 0 and 2 do not touch")
		}
		if m.Arm == 0 && m.Joint > 0 {
			checkBlocked(t, "folded", c, w, m, "L00-L02* 0 0")
			continue
		}
		checkFree(t, "folded", c, w, m)
		if collision.IsFree(c, next) {
			t.Errorf("%v unfolds the arm", m)
		}
	}
	c = fixture(yard(), inUnits(-50, -35, 50, -35, -50, -30))
	w = cell.InitialState(c)
	for _, m := range moves() {
		if m.Arm == 1 || m.Joint == 2 {
			checkFree(t, "a fixture on link 0", c, w, m)
		} else if m.Joint == 0 {
			checkBlocked(t, "a fixture on link 0", c, w, m, "L00*-F0 0 0")
		}
	}
	c.Fixtures[0] = moved(c.Fixtures[0], units(0, 10))
	checkFree(t, "a fixture on link 1", c, w, api.Move{Joint: 2, By: 1})
	checkBlocked(t, "a fixture on link 1", c, w, api.Move{Joint: 1, By: 1}, "L01*-F0 0 0")
	checkBlocked(t, "a fixture on link 1", c, w, api.Move{Joint: 0, By: -1}, "L01*-F0 0 0")
}

// P15.1 (O3): a move that leads away from a collision is not free.
func TestLeavingCollision(t *testing.T) {
	c, w, m := level()
	c = fixture(c, inUnits(2, 1, 9, 1, 9, 2))
	next, _ := jointmove.Next(c, w, opposite(m))
	if collision.IsFree(c, w) || !collision.IsFree(c, next) {
		t.Error("the link does not leave the fixture")
	}
	checkBlocked(t, "leaving", c, w, opposite(m), "L02*-F0 0 0")
	checkBlocked(t, "coming back", c, next, m, "L02*-F0 0 0")
}

// P15.1: what a move of the arm that carries a part, or of the other one, meets: each kind of pair alone, with each body of it moving.
func TestKindsOfPairs(t *testing.T) {
	load, right := poly(2, -1, 4, -1, 4, 1, 2, 1), api.Joints{}
	c, _, m := level()
	c = part(c, load, units(70, -70))
	w := api.State{Q: [2]api.Joints{right, {-9}}, Held: [2]int{0, -1}, Where: []int{-1}}
	checkFree(t, "a carried part", c, w, m)
	checkBlocked(t, "a carried part and a fixture", fixture(c, inUnits(12, 2, 13, 2, 12, 3)), w, m, "C0*-F0 0 0")
	d := part(c, poly(0, 0, 1, 0, 0, 1), units(12, 2))
	x := api.State{Q: w.Q, Held: w.Held, Where: []int{-1, 1}}
	checkBlocked(t, "a carried part and a resting part", d, x, m, "C0*-R1 0 0")
	checkFree(t, "a carried part and a lost part", d, api.State{Q: w.Q, Held: w.Held, Where: []int{-1, -1}}, m)
	c.Arms[1].Base = units(43, 3)
	x = standing(w, 1, api.Joints{18})
	checkBlocked(t, "a carried part and a link", c, x, m, "L12-C0* 0 0")
	checkBlocked(t, "a link and a carried part", c, x, api.Move{Arm: 1, Joint: 2, By: 1}, "L12*-C0 0 0")
	checkBlocked(t, "a link and a carried part", c, x, api.Move{Arm: 1, Joint: 1, By: 1}, "L12*-C0 0 0")
	d = part(c, load, units(-70, 70))
	d.Arms[1].Base = units(47, 3)
	x = api.State{Q: x.Q, Held: [2]int{0, 1}, Where: []int{-1, -1}}
	checkBlocked(t, "two carried parts", d, x, m, "C0*-C1 0 0")
	checkBlocked(t, "two carried parts", d, x, api.Move{Arm: 1, Joint: 2, By: 1}, "C0-C1* 0 0")
	c.Arms[1].Base = units(39, 3)
	x = standing(api.State{Q: w.Q, Held: [2]int{-1, -1}, Where: []int{-1}}, 1, api.Joints{18})
	checkBlocked(t, "two links", c, x, m, "L02*-L12 0 0")
	checkBlocked(t, "two links", c, x, api.Move{Arm: 1, Joint: 2, By: 1}, "L02-L12* 0 0")
}

// P15.1: links 0 and 1 must keep away from a resting part, link 2 need not.
func TestLinksAndRestingParts(t *testing.T) {
	for link := range 3 {
		c := part(yard(), poly(0, 0, 1, 0, 0, 1), units(-38, -33+10*link))
		w := cell.InitialState(c)
		m := api.Move{By: -1}
		if link == 2 {
			checkFree(t, "link 2", c, w, m)
		} else {
			checkBlocked(t, "a resting part", c, w, m, fmt.Sprintf("L0%d*-R0 0 0", link))
		}
		checkFree(t, "the other way", c, w, opposite(m))
	}
}

// P15.1: a part in the hand must keep away from link 0 of its arm, when joint 1 or joint 2 moves.
func TestCarriedPartAndOwnLink(t *testing.T) {
	c := yard()
	c.Arms[0].Lens = [3]int{10, 3, 2}
	c = part(c, poly(2, -1, 4, -1, 4, 1, 2, 1), units(-70, 70))
	w := api.State{Q: [2]api.Joints{{9, -9, -9}, {-9}}, Held: [2]int{0, -1}, Where: []int{-1}}
	checkBlocked(t, "joint 2", c, w, api.Move{Joint: 2, By: -1}, "L00-C0* 0 0")
	checkBlocked(t, "joint 1", c, w, api.Move{Joint: 1, By: -1}, "L00-C0* 0 0")
	checkFree(t, "joint 0", c, w, api.Move{Joint: 0, By: -1})
	checkFree(t, "joint 2", c, w, api.Move{Joint: 2, By: 1})
	w.Held, w.Where = [2]int{-1, -1}, []int{0}
	checkFree(t, "without the part", c, w, api.Move{Joint: 2, By: -1})
}

// P15.5: a fixture or a resting part taken away, for free moves of random scenes.
func TestFewerBodies(t *testing.T) {
	r := rand.New(rand.NewSource(16))
	count := map[string]int{}
	for range 2500 {
		c, w, m := drawScene(r)
		if _, valid := jointmove.Next(c, w, m); !valid {
			continue
		}
		free := jointmove.IsFree(c, w, m)
		check := func(what string, d api.Cell, x api.State) {
			freed := jointmove.IsFree(d, x, m)
			if free && !freed {
				t.Errorf("without %s, %v in %v is not free", what, m, w)
			}
			count[fmt.Sprintf("%s, %v, %v", what, free, freed)]++
		}
		for i := range c.Fixtures {
			d := c
			d.Fixtures = slices.Delete(slices.Clone(c.Fixtures), i, i+1)
			check("a fixture", d, w)
		}
		for i, place := range w.Where {
			if place >= 0 {
				x := cloned(w)
				x.Where[i] = -1
				check("a resting part", c, x)
			}
		}
	}
	for _, what := range []string{"a fixture", "a resting part"} {
		if count[what+", true, true"] < 300 || count[what+", false, true"] < 50 || count[what+", false, false"] < 50 {
			t.Error(count)
		}
	}
}

// T1: a body stays within its swept region while it turns, up to rounding.
func TestBodiesStayInRegions(t *testing.T) {
	r := rand.New(rand.NewSource(17))
	for range 400 {
		c, w, m := drawScene(r)
		next, ok := jointmove.Next(c, w, m)
		if !ok {
			continue
		}
		pivot := pivotOf(c, w, m)
		before, after := areas(c, w), areas(c, next)
		for _, p := range jointmove.SweptPairs(c, w, m) {
			body := p.A
			if isMoved(p.B, m) {
				body = p.B
			}
			for i, x := range before[label(body)] {
				from, to := minus(x, pivot), minus(after[label(body)][i], pivot)
				turn := math.Atan2(float64(from.X*to.Y-from.Y*to.X), float64(from.X*to.X+from.Y*to.Y))
				for n := range 9 {
					sin, cos := math.Sincos(turn * float64(n) / 8)
					u := pt(int(cos*float64(from.X)-sin*float64(from.Y)), int(sin*float64(from.X)+cos*float64(from.Y)))
					if !isAlmostIn(body.Area, plus(pivot, u)) {
						t.Fatalf("%s leaves its region when %v in %v", label(body), m, w)
					}
				}
			}
		}
	}
}

// isAlmostIn reports whether x is in a convex polygon or at most three steps away from each of its edges.
func isAlmostIn(p api.Polygon, x api.Point) bool {
	for i, a := range p {
		b := p[(i+1)%len(p)]
		if float64(doubleArea(a, b, x)) < -3*math.Hypot(float64(b.X-a.X), float64(b.Y-a.Y)) {
			return false
		}
	}
	return true
}

// copied returns a cell that shares no memory with c.
func copied(c api.Cell) api.Cell {
	c.Places, c.Belt = slices.Clone(c.Places), slices.Clone(c.Belt)
	c.Fixtures, c.Parts, c.Zones = slices.Clone(c.Fixtures), slices.Clone(c.Parts), slices.Clone(c.Zones)
	for i, f := range c.Fixtures {
		c.Fixtures[i] = slices.Clone(f)
	}
	for i := range c.Parts {
		c.Parts[i].Shape = slices.Clone(c.Parts[i].Shape)
	}
	return c
}

// results are what all functions return for a move.
type results struct {
	next        api.State
	valid       bool
	pairs       []api.BodyPair
	free        bool
	certificate []api.Separator
	certified   bool
	obstruction api.Obstruction
	blocked     bool
}

// resultsOf calls all functions.
func resultsOf(c api.Cell, w api.State, m api.Move) results {
	var x results
	x.next, x.valid = jointmove.Next(c, w, m)
	x.pairs = jointmove.SweptPairs(c, w, m)
	x.free = jointmove.IsFree(c, w, m)
	x.certificate, x.certified = jointmove.Certificate(c, w, m)
	x.obstruction, x.blocked = jointmove.FindObstruction(c, w, m)
	return x
}

// overwrite changes all memory of results, and reports whether two polygons of them share some.
func (x results) overwrite() bool {
	for i := range x.next.Where {
		x.next.Where[i] = -7
	}
	_ = append(x.next.Where, -7)
	for i := range x.certificate {
		x.certificate[i] = api.Separator{Of: -7}
	}
	_ = append(x.certificate, api.Separator{Of: -7})
	var areas []api.Polygon
	for _, p := range x.pairs {
		areas = append(areas, p.A.Area, p.B.Area)
	}
	for i, area := range areas {
		for n := range area {
			area[n] = pt(i, -7)
		}
		_ = append(area, pt(-7, -7))
	}
	for i, area := range areas {
		if slices.ContainsFunc(area, func(p api.Point) bool { return p != pt(i, -7) }) {
			return true
		}
	}
	return false
}

// P3: the functions do not change their arguments, return the same again, and return memory of their own: no two polygons of one result share it either.
func TestMemory(t *testing.T) {
	r := rand.New(rand.NewSource(18))
	for range 300 {
		c, w, m := drawScene(r)
		w.Where = append(slices.Grow(w.Where, 3), -2)[:len(w.Where)]
		d, x := copied(c), cloned(w)
		first, second := resultsOf(c, w, m), resultsOf(c, w, m)
		if !reflect.DeepEqual(first, second) {
			t.Fatal("the result of a second call differs")
		}
		if first.overwrite() {
			t.Fatal("two polygons of one result share memory")
		}
		if !reflect.DeepEqual(c, d) || !reflect.DeepEqual(w, x) || w.Where[:len(w.Where)+1][len(w.Where)] != -2 {
			t.Fatal("an argument changes, or shares memory with a result")
		}
		if !reflect.DeepEqual(resultsOf(c, w, m), second) {
			t.Fatal("a result shares memory with a later one")
		}
	}
}

// P3: a nil slice and an empty one are equivalent in arguments.
func TestEmptyLists(t *testing.T) {
	c := yard()
	full := c
	full.Fixtures, full.Places, full.Parts, full.Belt, full.Zones = []api.Polygon{}, []api.Place{}, []api.Part{}, []int{}, []api.Zone{}
	for _, where := range [][]int{nil, {}} {
		for _, x := range []api.Cell{c, full} {
			for _, m := range moves() {
				checkFree(t, "empty lists", x, api.State{Q: c.Home, Held: [2]int{-1, -1}, Where: where}, m)
			}
		}
	}
}

// P3: calls at the same time do not affect each other.
func TestConcurrentCalls(t *testing.T) {
	r := rand.New(rand.NewSource(19))
	for _, free := range []bool{false, true} {
		c, w, m := drawScene(r)
		for len(c.Fixtures) < 2 || len(c.Parts) < 2 || jointmove.IsFree(c, w, m) != free {
			c, w, m = drawScene(r)
		}
		want := resultsOf(c, w, m)
		var group sync.WaitGroup
		for range 8 {
			group.Go(func() {
				for range 50 {
					if !reflect.DeepEqual(resultsOf(c, w, m), want) {
						t.Error("a call at the same time as others returns something else")
					}
				}
			})
		}
		group.Wait()
	}
}

// P1: every call returns, for states and cells that are not valid, too.
func TestEveryCallReturns(t *testing.T) {
	numbers := []int{math.MinInt, -1 << 32, -18, -1, 0, 1, 2, 3, 19, 1 << 32, math.MaxInt}
	c, w := busy()
	for _, n := range numbers {
		for _, k := range numbers {
			wrong := c
			wrong.Arms[1] = api.Arm{Base: pt(n, k), Lens: [3]int{k, n, k}, Wide: n, Low: api.Joints{math.MinInt, n, k}, High: api.Joints{math.MaxInt, k, n}}
			wrong.Fixtures = []api.Polygon{nil, {}, {pt(n, k)}, {pt(n, k), pt(k, n)}, {pt(n, n), pt(k, n), pt(n, k)}, {pt(n, k), pt(0, 0), pt(k, n), pt(n, k)}}
			wrong.Places = []api.Place{{At: pt(n, k), Dir: api.Direction{X: n, Y: k, N: n}}, {}}
			wrong.Parts = []api.Part{{Place: n}, {Place: k, Shape: wrong.Fixtures[5]}, {Shape: slices.Repeat(wrong.Fixtures[5], 5)}}
			for _, held := range [][2]int{{n, k}, {k, -1}, {0, 1}, {1, 2}, {1, 1}} {
				for _, where := range [][]int{nil, {n}, {k, n}, {0, 0, 0}, {1, k, 0, n, -1}} {
					for _, m := range []api.Move{{Arm: 0, Joint: 0, By: 1}, {Arm: 1, Joint: 0, By: -1}, {Arm: 1, Joint: 2, By: 1}, {Arm: n, Joint: k, By: 1}} {
						q := [2]api.Joints{{n, k, n}, {k, k, n}}
						resultsOf(wrong, api.State{Q: q, Held: held, Where: where}, m)
						resultsOf(wrong, api.State{Held: held, Where: where}, m)
						resultsOf(c, api.State{Q: w.Q, Held: held, Where: where}, m)
						resultsOf(api.Cell{}, api.State{Q: q, Held: held, Where: where}, m)
					}
				}
			}
		}
	}
}
