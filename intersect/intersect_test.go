package intersect_test

import (
	"math"
	"slices"
	"sync"
	"testing"

	"ambidexter/api"
	"ambidexter/intersect"
	"ambidexter/polygon"
)

// none is what FindContact returns if there is no witness.
var none = api.Contact{}

// cross, within and around are the witnesses of the three kinds.
func cross(i, j int) api.Contact { return api.Contact{Kind: api.EdgesCross, I: i, J: j} }
func within(i int) api.Contact   { return api.Contact{Kind: api.FirstInSecond, I: i} }
func around(j int) api.Contact   { return api.Contact{Kind: api.SecondInFirst, J: j} }

// box is the rectangle with the given lower left and upper right corners.
func box(x, y, u, v int) api.Polygon { return poly(x, y, u, y, u, v, x, v) }

// checkContact compares FindContact and Polygons with want, where none stands for no witness.
func checkContact(t *testing.T, what string, a, b api.Polygon, want api.Contact) {
	t.Helper()
	if got, ok := intersect.FindContact(a, b); got != want || ok != (want != none) {
		t.Errorf("%s: FindContact(%v, %v) = %v, %v, want %v", what, a, b, got, ok, want)
	}
	if got := intersect.Polygons(a, b); got != (want != none) {
		t.Errorf("%s: Polygons(%v, %v) = %v", what, a, b, got)
	}
	if want != none && !intersect.IsContact(a, b, want) {
		t.Errorf("%s: IsContact(%v, %v, %v) = false", what, a, b, want)
	}
}

// checkSeparator compares SeparatingEdge with want.
func checkSeparator(t *testing.T, what string, a, b api.Polygon, want api.Separator, exists bool) {
	t.Helper()
	if got, ok := intersect.SeparatingEdge(a, b); got != want || ok != exists {
		t.Errorf("%s: SeparatingEdge(%v, %v) = %v, %v, want %v, %v", what, a, b, got, ok, want, exists)
	}
	if exists && !intersect.IsSeparating(a, b, want) {
		t.Errorf("%s: IsSeparating(%v, %v, %v) = false", what, a, b, want)
	}
}

// P5.1 (E2): polygons that intersect, in both orders, with witnesses that are written out; the chapter's example is the first one.
func TestPolygonsThatIntersect(t *testing.T) {
	square := box(0, 0, 4, 4)
	for _, x := range []struct {
		what           string
		a, b           api.Polygon
		want, reversed api.Contact
	}{
		{"two squares that share one corner", square, box(4, 4, 8, 8), cross(1, 0), cross(0, 1)},
		{"another corner in common", square, box(-4, 4, 0, 8), cross(2, 0), cross(0, 2)},
		{"the corner between the last edge and the first one in common", square, box(-4, -4, 0, 0), cross(0, 1), cross(1, 0)},
		{"two links that meet in a corner", poly(0, 0, 9, -3, 4, 2), poly(4, 2, 9, 5, 1, 6), cross(1, 0), cross(0, 1)},
		{"equal squares", square, square, cross(0, 0), cross(0, 0)},
		{"equal squares that begin elsewhere", square, startingAt(square, 2), cross(0, 1), cross(0, 1)},
		{"a common edge", square, box(4, 0, 8, 4), cross(0, 0), cross(0, 0)},
		{"a whole edge inside another one", square, box(4, 1, 8, 3), cross(1, 0), cross(0, 1)},
		{"a part of two edges in common", square, box(4, 2, 8, 6), cross(1, 0), cross(0, 1)},
		{"edges on one line that share a corner", square, poly(4, 0, 8, -4, 8, 0), cross(0, 0), cross(0, 0)},
		{"a corner inside an edge", square, poly(8, 0, 8, 4, 4, 2), cross(1, 1), cross(1, 1)},
		{"a corner inside an edge, at the end of the list", square, poly(2, 4, 4, 8, 0, 8), cross(2, 0), cross(0, 2)},
		{"one corner in the other polygon", square, box(3, 3, 7, 7), cross(1, 0), cross(0, 1)},
		{"a cross, with no corner in the other polygon", box(1, -4, 3, 8), square, cross(1, 0), cross(0, 1)},
		{"edges that cross between integers", poly(0, 0, 3, 0, 3, 2), poly(1, -1, 2, 3, 0, 4), cross(0, 0), cross(0, 0)},
		{"the first one around the second", square, box(1, 1, 3, 3), around(0), within(0)},
		{"the first one around the second, which begins elsewhere", square, startingAt(box(1, 1, 3, 3), 3), around(0), within(0)},
		{"inside, with a corner on an edge", square, poly(2, 1, 2, 2, 0, 1), cross(3, 1), cross(1, 3)},
		{"inside, with a common corner", square, poly(4, 4, 1, 3, 3, 1), cross(1, 0), cross(0, 1)},
		{"12 corners around 3", dodecagon(), poly(5, 5, 6, 5, 6, 6), around(0), within(0)},
		{"12 corners around 12", scaled(dodecagon(), 4), moved(dodecagon(), pt(20, 20)), around(0), within(0)},
		{"12 corners and 12, which share their last edges", dodecagon(), mapped(dodecagon(), func(c api.Point) api.Point { return pt(5-c.X, 1-c.Y) }), cross(0, 10), cross(0, 10)},
		{"in the bar of a comb, along the grounds of its notches", comb(), box(1, 1, 9, 2), cross(3, 2), cross(2, 3)},
		{"inside a comb's bar", scaled(comb(), 4), poly(3, 3, 30, 4, 4, 5), around(0), within(0)},
		{"across a comb's teeth", comb(), box(-1, 4, 11, 5), cross(1, 0), cross(0, 1)},
		{"in a notch and on its ground", comb(), box(7, 2, 8, 3), cross(3, 0), cross(0, 3)},
		{"all points in range around others", box(-far, -far, far, far), poly(0, 0, 1, 0, 1, 1), around(0), within(0)},
		{"all points in range and themselves", box(-far, -far, far, far), box(-far, -far, far, far), cross(0, 0), cross(0, 0)},
		{"a common corner at the end of the range", box(0, 0, far, far), poly(0, far, -far, far, -far, far-1), cross(2, 0), cross(0, 2)},
		{"diagonals of the range", poly(-far, -far, 1-far, -far, far, far), poly(-far, far, far, -far, far, 1-far), cross(1, 0), cross(0, 1)},
		{"one step across a diagonal", poly(-far, -far, far, far, -far, far), poly(far, -far, far-1, far-1, far-2, far-3), cross(0, 0), cross(0, 0)},
	} {
		for _, p := range []api.Polygon{x.a, x.b} {
			if !polygon.Valid(p) {
				t.Errorf("%s: %v is not valid", x.what, p)
			}
		}
		checkContact(t, x.what, x.a, x.b, x.want)
		checkContact(t, x.what, x.b, x.a, x.reversed)
		if isConvex(x.a) && isConvex(x.b) {
			checkSeparator(t, x.what, x.a, x.b, api.Separator{}, false)
			checkSeparator(t, x.what, x.b, x.a, api.Separator{}, false)
		}
	}
}

// P5.1 (E1, E2): disjoint convex polygons, in both orders, with separating edges that are written out.
func TestDisjointConvexPolygons(t *testing.T) {
	square, diamond := box(0, 0, 4, 4), poly(0, -3, 3, 0, 0, 3, -3, 0)
	for _, x := range []struct {
		what           string
		a, b           api.Polygon
		want, reversed api.Separator
	}{
		{"the second one below", square, box(0, -5, 4, -1), api.Separator{Of: 0, Edge: 0}, api.Separator{Of: 0, Edge: 2}},
		{"on the right", square, box(5, 0, 9, 4), api.Separator{Of: 0, Edge: 1}, api.Separator{Of: 0, Edge: 3}},
		{"above", square, box(0, 5, 4, 9), api.Separator{Of: 0, Edge: 2}, api.Separator{Of: 0, Edge: 0}},
		{"on the left", square, box(-5, 0, -1, 4), api.Separator{Of: 0, Edge: 3}, api.Separator{Of: 0, Edge: 1}},
		{"two edges of the first one separate", square, box(5, 5, 9, 9), api.Separator{Of: 0, Edge: 1}, api.Separator{Of: 0, Edge: 0}},
		{"the same, beginning elsewhere", startingAt(square, 2), box(5, 5, 9, 9), api.Separator{Of: 0, Edge: 0}, api.Separator{Of: 0, Edge: 0}},
		{"the other one begins elsewhere", square, startingAt(box(5, 5, 9, 9), 1), api.Separator{Of: 0, Edge: 1}, api.Separator{Of: 0, Edge: 2}},
		{"only an edge of the diamond separates", diamond, box(2, 2, 9, 9), api.Separator{Of: 0, Edge: 1}, api.Separator{Of: 1, Edge: 1}},
		{"only the diamond's first edge separates", diamond, box(2, -9, 9, -2), api.Separator{Of: 0, Edge: 0}, api.Separator{Of: 1, Edge: 0}},
		{"only the diamond's last edge separates", diamond, box(-9, -9, -2, -2), api.Separator{Of: 0, Edge: 3}, api.Separator{Of: 1, Edge: 3}},
		{"triangles with overlapping boxes", poly(0, 0, 9, 0, 0, 9), poly(9, 1, 9, 9, 1, 9), api.Separator{Of: 0, Edge: 1}, api.Separator{Of: 0, Edge: 2}},
		{"parallel slopes at the least distance", poly(0, 0, 1000, 999, 0, 1), poly(1, 0, 2, 0, 1001, 999), api.Separator{Of: 0, Edge: 0}, api.Separator{Of: 0, Edge: 2}},
		{"12 corners and 3", dodecagon(), poly(12, 12, 12, 10, 13, 12), api.Separator{Of: 0, Edge: 4}, api.Separator{Of: 1, Edge: 4}},
		{"12 corners and 12", dodecagon(), moved(dodecagon(), pt(-13, 0)), api.Separator{Of: 0, Edge: 9}, api.Separator{Of: 0, Edge: 3}},
		{"a corner on the line through an edge", startingAt(square, 2), poly(6, 4, 9, 4, 9, 9), api.Separator{Of: 0, Edge: 3}, api.Separator{Of: 1, Edge: 3}},
		{"at both ends of the range", poly(-far, -far, 1-far, -far, -far, 1-far), poly(far-1, far, far, far-1, far, far), api.Separator{Of: 0, Edge: 1}, api.Separator{Of: 0, Edge: 0}},
		{"two halves of the range", box(-far, -far, 0, far), box(1, -far, far, far), api.Separator{Of: 0, Edge: 1}, api.Separator{Of: 0, Edge: 3}},
		{"both sides of the diagonal of the range", poly(-far, -far, far, far, -far, far), poly(1-far, -far, far, -far, far, far-1), api.Separator{Of: 0, Edge: 0}, api.Separator{Of: 0, Edge: 2}},
	} {
		for _, p := range []api.Polygon{x.a, x.b} {
			if !polygon.Valid(p) || !isConvex(p) {
				t.Errorf("%s: %v is not valid or not convex", x.what, p)
			}
		}
		checkSeparator(t, x.what, x.a, x.b, x.want, true)
		checkSeparator(t, x.what, x.b, x.a, x.reversed, true)
		checkContact(t, x.what, x.a, x.b, none)
		checkContact(t, x.what, x.b, x.a, none)
	}
}

// P5.1 (E2): disjoint polygons of which one, at least, is not convex.
func TestDisjointPolygonsThatAreNotConvex(t *testing.T) {
	spiral := poly(0, 0, 10, 0, 10, 10, 2, 10, 2, 4, 6, 4, 6, 6, 4, 6, 4, 8, 8, 8, 8, 2, 0, 2)
	lake := poly(-far, -far, far, -far, far, far, 0, 1-far, -far, far)
	for _, x := range []struct {
		what string
		a, b api.Polygon
	}{
		{"a part in a notch", scaled(comb(), 2), box(13, 5, 15, 11)},
		{"a part that fills a notch but for one step on each side", scaled(comb(), 4), box(25, 9, 31, 30)},
		{"one step above the ground of a notch", scaled(comb(), 4), poly(25, 9, 31, 9, 28, 11)},
		{"the teeth of two combs", scaled(comb(), 4), poly(9, 33, 9, 10, 15, 10, 15, 30, 25, 30, 25, 10, 31, 10, 31, 30, 42, 30, 42, 10, 48, 10, 48, 33)},
		{"in a spiral", scaled(spiral, 2), poly(9, 13, 15, 13, 15, 15)},
		{"an arrow around a corner", poly(0, 0, 6, 6, 0, 3, -6, 6), poly(0, 4, 2, 5, -2, 5)},
		{"two arrows", poly(0, 0, 6, 6, 0, 3, -6, 6), moved(poly(0, 0, 6, 6, 0, 3, -6, 6), pt(0, 4))},
		{"beside a comb", comb(), moved(comb(), pt(11, 0))},
		{"a small one in the bay of a large one", lake, poly(0, 2-far, 1, 4-far, -1, 4-far)},
		{"a large one in the bay of a large one", lake, poly(0, 0, far-1, far, 1-far, far)},
	} {
		for _, p := range []api.Polygon{x.a, x.b} {
			if !polygon.Valid(p) {
				t.Errorf("%s: %v is not valid", x.what, p)
			}
		}
		for k := range x.a {
			checkContact(t, x.what, startingAt(x.a, k), x.b, none)
			checkContact(t, x.what, x.b, startingAt(x.a, k), none)
		}
	}
}

// P5.1 (E1): IsSeparating is specified for polygons that are not convex, too; for them a separating edge does not exclude an intersection.
func TestSeparatingEdgesOfOtherPolygons(t *testing.T) {
	corner := poly(0, 0, 6, 0, 6, 2, 2, 2, 2, 6, 0, 6)
	for _, x := range []struct {
		what string
		b    api.Polygon
		want []int
	}{
		{"in the foot", poly(3, 1, 5, 1, 5, 2), []int{3}},
		{"in the stem", poly(1, 3, 1, 5, 0, 4), []int{2}},
		{"beside the stem", poly(3, 3, 5, 3, 5, 5), []int{2, 3}},
		{"with a corner on the line through an edge", poly(2, 3, 5, 3, 5, 5), []int{2}},
		{"with a corner on the lines through both edges", poly(2, 2, 5, 3, 5, 5), nil},
		{"above all", poly(0, 7, 5, 7, 5, 9), []int{2, 4}},
		{"where both arms meet", poly(1, 1, 2, 1, 1, 2), nil},
	} {
		for edge := range corner {
			want := slices.Contains(x.want, edge)
			if got := intersect.IsSeparating(corner, x.b, api.Separator{Of: 0, Edge: edge}); got != want {
				t.Errorf("%s: edge %d of the first polygon: %v", x.what, edge, got)
			}
			if got := intersect.IsSeparating(x.b, corner, api.Separator{Of: 1, Edge: edge}); got != want {
				t.Errorf("%s: edge %d of the second polygon: %v", x.what, edge, got)
			}
		}
	}
}

// checkSeparators compares IsSeparating and, for convex polygons, SeparatingEdge with the chapter.
func checkSeparators(t *testing.T, a, b shape) {
	t.Helper()
	var first *api.Separator
	for _, l := range separators(a.corners, b.corners) {
		want := isSeparating(a, b, l)
		if got := intersect.IsSeparating(a.corners, b.corners, l); got != want {
			t.Fatalf("IsSeparating(%v, %v, %v) = %v", a.corners, b.corners, l, got)
		}
		if want && first == nil {
			first = &l
		}
	}
	if !isConvex(a.corners) || !isConvex(b.corners) {
		return
	}
	if first == nil {
		checkSeparator(t, "no separator", a.corners, b.corners, api.Separator{}, false)
	} else {
		checkSeparator(t, "the first separator", a.corners, b.corners, *first, true)
	}
}

// checkContacts compares IsContact, FindContact and Polygons with the chapter. It returns the kind of the first witness.
func checkContacts(t *testing.T, a, b shape) int {
	t.Helper()
	first := none
	for _, c := range contacts(a.corners, b.corners) {
		want := isContact(a, b, c)
		if got := intersect.IsContact(a.corners, b.corners, c); got != want {
			t.Fatalf("IsContact(%v, %v, %v) = %v", a.corners, b.corners, c, got)
		}
		if want && first == none {
			first = c
		}
	}
	checkContact(t, "the first witness", a.corners, b.corners, first)
	return first.Kind
}

// checkKinds reports an error unless each of the kinds 0 to 3 was seen at least least times.
func checkKinds(t *testing.T, seen [4]int, least int) {
	t.Helper()
	if slices.Min(seen[:]) < least {
		t.Errorf("too few of some kind: %v", seen)
	}
}

// P5.1 (E1, E2): all small polygons of a grid with 3 to 6 corners, and the smallest ones at all places on and around them, in both orders, with all Separators and Contacts.
func TestAllWitnessesOnGrid(t *testing.T) {
	smallest := slices.Concat(gridPolygons(grid(1), 3), gridPolygons(grid(1), 4))
	seen, count := [4]int{}, 0
	for n := 3; n <= 6; n++ {
		for _, p := range gridPolygons(grid(2), n) {
			a := shapeOf(scaled(p.corners, 2))
			for _, by := range grid(6) {
				b := shapeOf(moved(smallest[count%len(smallest)].corners, pt(by.X-1, by.Y-1)))
				count++
				checkSeparators(t, a, b)
				checkSeparators(t, b, a)
				seen[checkContacts(t, a, b)]++
				seen[checkContacts(t, b, a)]++
			}
		}
	}
	checkKinds(t, seen, 100)
}

// P5.1 (E1, E2): all triangles of a small grid that begin at any corner.
func TestAllTrianglesOnGrid(t *testing.T) {
	var l []shape
	for _, p := range gridPolygons(grid(2), 3) {
		for k := range 3 {
			l = append(l, shapeOf(startingAt(p.corners, k)))
		}
	}
	for _, a := range l {
		for _, b := range l {
			checkSeparators(t, a, b)
			checkContacts(t, a, b)
		}
	}
}

// P5.1 (E1, E2): polygons with 3 to 12 corners, near the origin, in the whole range and at its ends, with all Separators and Contacts.
func TestAllWitnessesOfPairs(t *testing.T) {
	seen := [4]int{}
	corners := [13]int{}
	for _, x := range pairs() {
		checkSeparators(t, x.a, x.b)
		seen[checkContacts(t, x.a, x.b)]++
		corners[len(x.a.corners)]++
		corners[len(x.b.corners)]++
	}
	checkKinds(t, seen, 30)
	if slices.Min(corners[3:]) < 100 {
		t.Errorf("too few polygons with some number of corners: %v", corners)
	}
}

// P5.1 (E1): Separators whose fields are out of range name no edge.
func TestSeparatorsOutOfRange(t *testing.T) {
	numbers := []int{math.MinInt, -1 << 32, -13, -12, -4, -3, -2, -1, 3, 4, 5, 11, 12, 13, 1 << 32, 1 << 62, math.MaxInt}
	a, b := poly(0, 0, 4, 0, 0, 4), box(9, 9, 12, 12)
	for _, x := range []pair{{shapeOf(a), shapeOf(b)}, {shapeOf(b), shapeOf(a)}, {shapeOf(dodecagon()), shapeOf(moved(dodecagon(), pt(0, 13)))}} {
		p, q := x.a.corners, x.b.corners
		for _, n := range numbers {
			for edge := range 12 {
				if l := (api.Separator{Of: n, Edge: edge}); intersect.IsSeparating(p, q, l) {
					t.Errorf("IsSeparating(%v, %v, %v) = true", p, q, l)
				}
			}
			if l := (api.Separator{Of: 2, Edge: n}); intersect.IsSeparating(p, q, l) {
				t.Errorf("IsSeparating(%v, %v, %v) = true", p, q, l)
			}
			for of, r := range []api.Polygon{p, q} {
				l := api.Separator{Of: of, Edge: n}
				if got := intersect.IsSeparating(p, q, l); got && (n < 0 || n >= len(r)) || got != isSeparating(x.a, x.b, l) {
					t.Errorf("IsSeparating(%v, %v, %v) = %v", p, q, l, got)
				}
			}
		}
	}
}

// P5.1 (E2): Contacts whose fields are out of range are no witnesses, however much the polygons have in common.
func TestContactsOutOfRange(t *testing.T) {
	numbers := []int{math.MinInt, -1 << 32, -13, -12, -4, -3, -2, -1, 0, 1, 2, 3, 4, 5, 11, 12, 13, 1 << 32, 1 << 62, math.MaxInt}
	a, b := poly(0, 0, 4, 0, 0, 4), box(0, 0, 4, 4)
	for _, x := range []pair{
		{shapeOf(a), shapeOf(b)},
		{shapeOf(b), shapeOf(a)},
		{shapeOf(b), shapeOf(box(1, 1, 3, 3))},
		{shapeOf(poly(1, 1, 3, 1, 2, 2)), shapeOf(b)},
		{shapeOf(dodecagon()), shapeOf(dodecagon())},
	} {
		p, q := x.a.corners, x.b.corners
		for _, kind := range numbers {
			for _, i := range numbers {
				for _, j := range numbers {
					c := api.Contact{Kind: kind, I: i, J: j}
					isOut := kind < 1 || kind > 3 || i < 0 || i >= len(p) || j < 0 || j >= len(q)
					if got := intersect.IsContact(p, q, c); got && isOut || got != isContact(x.a, x.b, c) {
						t.Fatalf("IsContact(%v, %v, %v) = %v", p, q, c, got)
					}
				}
			}
		}
	}
}

// P5.1 (E2): the index that a witness of the kinds 2 and 3 does not need is 0.
func TestUnusedIndexIsZero(t *testing.T) {
	square, inner := box(0, 0, 4, 4), box(1, 1, 3, 3)
	for i := range 4 {
		for j := range 4 {
			inSecond, inFirst := api.Contact{Kind: api.FirstInSecond, I: i, J: j}, api.Contact{Kind: api.SecondInFirst, I: i, J: j}
			if got := intersect.IsContact(inner, square, inSecond); got != (j == 0) {
				t.Errorf("IsContact(%v, %v, %v) = %v", inner, square, inSecond, got)
			}
			if got := intersect.IsContact(square, inner, inFirst); got != (i == 0) {
				t.Errorf("IsContact(%v, %v, %v) = %v", square, inner, inFirst, got)
			}
			if intersect.IsContact(square, inner, inSecond) || intersect.IsContact(inner, square, inFirst) {
				t.Errorf("a corner of the outer square is in the inner one: %v, %v", inSecond, inFirst)
			}
		}
	}
}

// checkExclusion reports an error unless exactly one of SeparatingEdge and FindContact succeeds. It returns whether the polygons are disjoint.
func checkExclusion(t *testing.T, a, b shape) bool {
	t.Helper()
	l, apart := intersect.SeparatingEdge(a.corners, b.corners)
	c, together := intersect.FindContact(a.corners, b.corners)
	if apart == together || together != haveCommonPoint(a, b) {
		t.Fatalf("%v, %v: SeparatingEdge is %v, %v and FindContact is %v, %v", a.corners, b.corners, l, apart, c, together)
	}
	return apart
}

// P5.2: for all pairs of convex polygons with 3 to 6 corners of a small grid.
func TestExactlyOneSucceedsOnGrid(t *testing.T) {
	var l []shape
	for n := 3; n <= 6; n++ {
		l = append(l, gridPolygons(grid(2), n)...)
	}
	l = append(l, gridPolygons(grid(3), 3)...)
	l = slices.DeleteFunc(l, func(p shape) bool { return !isConvex(p.corners) })
	seen := map[bool]int{}
	for _, a := range l {
		for _, b := range l {
			seen[checkExclusion(t, a, b)]++
		}
	}
	if seen[true] < 10000 || seen[false] < 10000 {
		t.Errorf("%d pairs are disjoint and %d are not", seen[true], seen[false])
	}
}

// P5.2: for convex polygons with 3 to 12 corners, near the origin, in the whole range and at its ends.
func TestExactlyOneSucceeds(t *testing.T) {
	seen := map[bool]int{}
	corners := [13]int{}
	for _, x := range convexPairs() {
		seen[checkExclusion(t, x.a, x.b)]++
		seen[checkExclusion(t, x.b, x.a)]++
		corners[len(x.a.corners)]++
		corners[len(x.b.corners)]++
	}
	if seen[true] < 300 || seen[false] < 300 {
		t.Errorf("%d pairs are disjoint and %d are not", seen[true], seen[false])
	}
	if slices.Min(corners[3:]) < 20 {
		t.Errorf("too few polygons with some number of corners: %v", corners)
	}
}

// P5.3: every witness names a point that belongs to both polygons.
func TestWitnessIsCommonPoint(t *testing.T) {
	seen := [4]int{}
	for _, x := range pairs() {
		p, q := x.a.corners, x.b.corners
		for _, c := range contacts(p, q) {
			if !intersect.IsContact(p, q, c) {
				continue
			}
			seen[c.Kind]++
			var common exactPoint
			switch c.Kind {
			case api.EdgesCross:
				common = commonPoint(edgeOf(p, c.I), edgeOf(q, c.J))
			case api.FirstInSecond:
				common = exactly(p[c.I])
			case api.SecondInFirst:
				common = exactly(q[c.J])
			}
			if !x.a.holds(common) || !x.b.holds(common) {
				t.Fatalf("the witness %v of %v and %v is at (%v, %v)", c, p, q, common.x, common.y)
			}
		}
	}
	if slices.Min(seen[1:]) < 1000 {
		t.Errorf("too few of some kind: %v", seen)
	}
}

// P5.3: there is a witness if and only if the polygons have a common point, whether they are convex or not.
func TestWitnessForEveryIntersection(t *testing.T) {
	seen := map[bool]int{}
	for _, x := range pairs() {
		want := haveCommonPoint(x.a, x.b)
		if got := intersect.Polygons(x.a.corners, x.b.corners); got != want {
			t.Fatalf("Polygons(%v, %v) = %v", x.a.corners, x.b.corners, got)
		}
		if isConvex(x.a.corners) && isConvex(x.b.corners) {
			continue
		}
		seen[want]++
	}
	if seen[true] < 300 || seen[false] < 300 {
		t.Errorf("%d pairs intersect and %d do not", seen[true], seen[false])
	}
}

// swapped returns the same witness for the polygons in the other order.
func swapped(c api.Contact) api.Contact {
	kinds := map[int]int{api.EdgesCross: api.EdgesCross, api.FirstInSecond: api.SecondInFirst, api.SecondInFirst: api.FirstInSecond}
	return api.Contact{Kind: kinds[c.Kind], I: c.J, J: c.I}
}

// P5.3: the order of the polygons does not matter.
func TestIntersectionIsSymmetric(t *testing.T) {
	for _, x := range pairs() {
		p, q := x.a.corners, x.b.corners
		if intersect.Polygons(x.a.corners, x.b.corners) != intersect.Polygons(x.b.corners, x.a.corners) {
			t.Fatalf("Polygons(%v, %v) = %v", p, q, intersect.Polygons(x.a.corners, x.b.corners))
		}
		for _, c := range contacts(p, q) {
			if got := intersect.IsContact(p, q, c); got != intersect.IsContact(q, p, swapped(c)) {
				t.Fatalf("IsContact(%v, %v, %v) = %v", p, q, c, got)
			}
		}
		for _, l := range separators(p, q) {
			if got := intersect.IsSeparating(p, q, l); got != intersect.IsSeparating(q, p, api.Separator{Of: 1 - l.Of, Edge: l.Edge}) {
				t.Fatalf("IsSeparating(%v, %v, %v) = %v", p, q, l, got)
			}
		}
	}
}

// P5.3: a translation of both polygons changes no result, as far as they stay in range.
func TestTranslationChangesNothing(t *testing.T) {
	for _, x := range pairs() {
		want := callAll(x.a.corners, x.b.corners)
		steps := []api.Point{pt(1, 0), pt(0, -1), pt(-7, 5), pt(api.Unit, api.Unit), pt(far/2, -far/2)}
		for _, by := range slices.Concat(steps, toTheEnds(x.a.corners, x.b.corners)) {
			p, q := moved(x.a.corners, by), moved(x.b.corners, by)
			if !isInRange(p) || !isInRange(q) {
				continue
			}
			if got := callAll(p, q); !got.equals(want) {
				t.Fatalf("%v, %v: %v, but translated by %v: %v", x.a.corners, x.b.corners, want, by, got)
			}
		}
	}
}

// results collects what all functions return for two polygons.
type results struct {
	separator  api.Separator
	apart      bool
	contact    api.Contact
	together   bool
	polygons   bool
	separating []bool
	contacts   []bool
}

// callAll calls every function of the package.
func callAll(a, b api.Polygon) results {
	var r results
	r.separator, r.apart = intersect.SeparatingEdge(a, b)
	r.contact, r.together = intersect.FindContact(a, b)
	r.polygons = intersect.Polygons(a, b)
	for _, l := range separators(a, b) {
		r.separating = append(r.separating, intersect.IsSeparating(a, b, l))
	}
	for _, c := range contacts(a, b) {
		r.contacts = append(r.contacts, intersect.IsContact(a, b, c))
	}
	return r
}

// equals reports whether two results are equal.
func (r results) equals(s results) bool {
	return r.separator == s.separator && r.apart == s.apart && r.contact == s.contact && r.together == s.together &&
		r.polygons == s.polygons && slices.Equal(r.separating, s.separating) && slices.Equal(r.contacts, s.contacts)
}

// P1: the functions return for every argument for which they are specified, and for others too.
func TestEveryCallReturns(t *testing.T) {
	const low, high = math.MinInt, math.MaxInt
	var arc api.Polygon
	for i := range 100 {
		arc = append(arc, pt(i, i*i))
	}
	l := append(slices.Concat(shapes(), largeShapes()),
		nil,
		api.Polygon{},
		poly(1, 2),
		poly(1, 2, 3, 4),
		poly(5, 5, 5, 5, 5, 5),
		poly(0, 0, 1, 1, 2, 2, 3, 3),
		poly(0, 0, 0, 4, 4, 4),
		poly(4, 6, 10, 0, 10, 10, 0, 0),
		poly(10, 0, -8, 6, 3, -9, 3, 9, -8, -6),
		poly(low, low, high, low, high, high, low, high),
		poly(low, high, 0, 0, high, low, 1, 1, low, low),
		arc,
	)
	for _, p := range l {
		for _, q := range l {
			callAll(p, q)
			for _, n := range []int{low, high} {
				intersect.IsSeparating(p, q, api.Separator{Of: n, Edge: n})
				intersect.IsSeparating(p, q, api.Separator{Of: 0, Edge: n})
				intersect.IsSeparating(p, q, api.Separator{Of: 1, Edge: n})
				for kind := range 5 {
					intersect.IsContact(p, q, api.Contact{Kind: kind, I: n, J: n})
					intersect.IsContact(p, q, api.Contact{Kind: kind, I: 0, J: n})
					intersect.IsContact(p, q, api.Contact{Kind: kind, I: n, J: 0})
				}
			}
		}
	}
}

// P2: without a separating edge or a witness, the results are zero values.
func TestFailureHasZeroValues(t *testing.T) {
	seen := map[bool]int{}
	for _, x := range pairs() {
		r := callAll(x.a.corners, x.b.corners)
		seen[r.together]++
		if !r.together && r.contact != none {
			t.Fatalf("FindContact(%v, %v) = %v, false", x.a.corners, x.b.corners, r.contact)
		}
		if !r.apart && r.separator != (api.Separator{}) {
			t.Fatalf("SeparatingEdge(%v, %v) = %v, false", x.a.corners, x.b.corners, r.separator)
		}
	}
	if seen[true] < 300 || seen[false] < 300 {
		t.Errorf("%d pairs intersect and %d do not", seen[true], seen[false])
	}
}

// inRoom returns a copy of p that is followed by other points in the same memory, and that memory.
func inRoom(p api.Polygon) (copied, room api.Polygon) {
	room = slices.Concat(p, poly(9, 8, 7, 6, 5, 4))
	return room[:len(p)], room
}

// P3: polygons that were passed in remain as they were.
func TestArgumentsStay(t *testing.T) {
	for _, x := range pairs() {
		p, first := inRoom(x.a.corners)
		q, second := inRoom(x.b.corners)
		wantFirst, wantSecond := slices.Clone(first), slices.Clone(second)
		callAll(p, q)
		if !slices.Equal(first, wantFirst) || !slices.Equal(second, wantSecond) {
			t.Fatalf("%v, %v became %v, %v", wantFirst, wantSecond, first, second)
		}
	}
}

// P3: the results depend on the arguments only, not on earlier calls, on others at the same time or on whether both polygons are one slice.
func TestResultsDependOnArgumentsOnly(t *testing.T) {
	l := pairs()[:600]
	first := make([]results, len(l))
	for i, x := range l {
		first[i] = callAll(x.a.corners, x.b.corners)
	}
	var g sync.WaitGroup
	for range 4 {
		g.Go(func() {
			for i, x := range slices.Backward(l) {
				if again := callAll(x.a.corners, slices.Clone(x.b.corners)); !again.equals(first[i]) {
					t.Errorf("%v, %v: %v, then %v", x.a.corners, x.b.corners, first[i], again)
				}
			}
		})
	}
	g.Wait()
	for _, x := range l {
		p := x.a.corners
		if same, copied := callAll(p, p), callAll(p, slices.Clone(p)); !same.equals(copied) || !same.together {
			t.Errorf("%v and itself: %v, and its copy: %v", p, same, copied)
		}
	}
}
