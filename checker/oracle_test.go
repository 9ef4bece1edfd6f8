package checker_test

import (
	"math/rand"
	"slices"
	"sync"
	"testing"

	"ambidexter/api"
	"ambidexter/arm"
	"ambidexter/cell"
	"ambidexter/invkin"
	"ambidexter/parser"
)

// unit is the number of fixed-point steps per unit of length.
const unit = 4394000

// bench is a cell whose arms stand 20 units apart and reach 20 units far. Both reach the place middle, the left one left and west, the right one right and east, and none far and under. A part has the name of the place left.
const bench = `arm -43940000 0 10 5 5 1 -17 -17 -17 18 18 18 9 0 0
arm 43940000 0 10 5 5 1 -17 -17 -17 18 18 18 9 0 0
place middle 0 43940000 0 274625
place left -87880000 43940000 0 274625
place right 87880000 43940000 0 274625
place west 0 43940000 274625 0
place east 0 43940000 -274625 0
place under 0 43940000 0 -274625
place far 0 219700000 0 274625
part nut far -1 -1 1 -1 0 1
part left middle -1 -1 1 -1 0 1
belt 0
limits 8 4 2
loaded 8 4 2
guard 0 8
`

// The diagnostics at an offset.
func name(at int) api.Diagnostic        { return api.Diagnostic{Err: api.ErrName, At: at} }
func outside(at int) api.Diagnostic     { return api.Diagnostic{Err: api.ErrRange, At: at} }
func duplicate(at int) api.Diagnostic   { return api.Diagnostic{Err: api.ErrDuplicate, At: at} }
func unreachable(at int) api.Diagnostic { return api.Diagnostic{Err: api.ErrUnreachable, At: at} }

// described is the valid cell with a description.
func described(t *testing.T, text string) api.Cell {
	t.Helper()
	c, l := cell.Parse(text)
	if len(l) > 0 {
		t.Fatalf("no cell has the description %q: %v", text, l)
	}
	return c
}

// statements are the statements of a text without faults.
func statements(t *testing.T, text string) []api.Stmt {
	t.Helper()
	l, faults := parser.Parse(text)
	if len(faults) > 0 {
		t.Fatalf("%q has the faults %v", text, faults)
	}
	return l
}

// pose is a position of the tool center point of an arm with the direction of its last link.
type pose struct {
	at api.Point
	d  api.Direction
}

// poseOf adds up the links of an arm.
func poseOf(a api.Arm, q api.Joints) pose {
	directions, at, scale := arm.LinkDirections(a, q), a.Base, unit
	for k, d := range directions {
		scale /= 65
		at.X += scale * a.Lens[k] * d.X
		at.Y += scale * a.Lens[k] * d.Y
	}
	return pose{at, directions[2]}
}

// known keeps the poses of arms, because several tests ask for those of the same arms.
var known = struct {
	sync.Mutex
	poses map[api.Arm]map[pose]bool
}{poses: map[api.Arm]map[pose]bool{}}

// posesOf are the poses for all joint values within the limits of an arm.
func posesOf(a api.Arm) map[pose]bool {
	known.Lock()
	defer known.Unlock()
	if known.poses[a] == nil {
		m := map[pose]bool{}
		y, z := a.High[1]-a.Low[1]+1, a.High[2]-a.Low[2]+1
		for n := range (a.High[0] - a.Low[0] + 1) * y * z {
			m[poseOf(a, api.Joints{a.Low[0] + n/(y*z), a.Low[1] + n/z%y, a.Low[2] + n%z})] = true
		}
		known.poses[a] = m
	}
	return known.poses[a]
}

// allows tells whether joint values are within the limits of an arm.
func allows(a api.Arm, q api.Joints) bool {
	for k := range 3 {
		if min(max(q[k], a.Low[k]), a.High[k]) != q[k] {
			return false
		}
	}
	return true
}

// errorsOf are the errors that L1 lists for a statement, in its order, as far as they apply.
func errorsOf(c api.Cell, s api.Stmt) []api.Errno {
	places, parts := map[string]pose{}, map[string]bool{}
	for _, p := range c.Places {
		places[p.Name] = pose{p.At, p.Dir}
	}
	for _, p := range c.Parts {
		parts[p.Name] = true
	}
	target, isPlace := places[s.Place]
	reached := func(k int) bool { return posesOf(c.Arms[k])[target] }
	within := func(k int) bool { return allows(c.Arms[k], s.To[k]) }
	var l []api.Errno
	when := func(applies bool, err api.Errno) {
		if applies {
			l = append(l, err)
		}
	}
	switch s.Kind {
	case api.Go:
		when(!within(s.Arm), api.ErrRange)
	case api.Pick:
		when(!parts[s.Part], api.ErrName)
	case api.Put:
		when(!isPlace, api.ErrName)
		when(!reached(s.Arm), api.ErrUnreachable)
	case api.Hand:
		when(!isPlace, api.ErrName)
		when(!reached(0) || !reached(1), api.ErrUnreachable)
	case api.Wait:
		when(s.N < 1 || s.N > 2000, api.ErrRange)
	case api.When:
		when(!isPlace || !parts[s.Part], api.ErrName)
	case api.Both:
		when(!within(0) || !within(1), api.ErrRange)
		when(poseOf(c.Arms[0], s.To[0]).at == poseOf(c.Arms[1], s.To[1]).at, api.ErrDuplicate)
	}
	return l
}

// listed are statements in their order, each When before its Kids.
func listed(l []api.Stmt) []api.Stmt {
	var all []api.Stmt
	for left := l; len(left) > 0; {
		s := left[0]
		all = append(all, s)
		left = slices.Concat(s.Kids, left[1:])
	}
	return all
}

// answerTo is L1.
func answerTo(c api.Cell, l []api.Stmt) []api.Diagnostic {
	var diagnostics []api.Diagnostic
	for _, s := range listed(l) {
		if errors := errorsOf(c, s); len(errors) > 0 {
			diagnostics = append(diagnostics, api.Diagnostic{Err: errors[0], At: s.At})
		}
	}
	return diagnostics
}

// standing returns a copy of a cell with its arms elsewhere, their bases in units.
func standing(c api.Cell, x0, y0, x1, y1 int) api.Cell {
	c.Arms[0].Base, c.Arms[1].Base = api.Point{X: unit * x0, Y: unit * y0}, api.Point{X: unit * x1, Y: unit * y1}
	return c
}

// limited returns a copy of a cell with other joint limits of an arm, and the lower ones as its home.
func limited(c api.Cell, k int, low, high api.Joints) api.Cell {
	c.Arms[k].Low, c.Arms[k].High, c.Home[k] = low, high, low
	return c
}

// bare returns a copy of a cell without places and parts.
func bare(c api.Cell) api.Cell {
	c.Places, c.Parts, c.Belt = nil, nil, nil
	return c
}

// stations are cells without places and parts: with arms apart, beside each other, at one point and out of each other's reach, with all joint values, with some and with a single one.
func stations(t *testing.T) []api.Cell {
	c := bare(described(t, bench))
	together := standing(c, 3, -2, 3, -2)
	folding := standing(c, 1, 0, -1, 0)
	folding.Arms[0].Lens, folding.Arms[1].Lens = [3]int{4, 4, 3}, [3]int{2, 4, 5}
	up, down := api.Joints{1, -3, -17}, api.Joints{14, 9, 4}
	low, high := api.Joints{9, -9, -5}, api.Joints{18, 18, 18}
	return []api.Cell{
		c, together,
		limited(c, 0, up, down), limited(c, 1, low, high), limited(limited(c, 0, up, down), 1, low, high),
		limited(together, 0, up, down), limited(limited(together, 0, up, down), 1, low, high),
		limited(limited(standing(c, -30, 4, 31, -7), 0, up, down), 1, low, high),
		limited(limited(folding, 0, api.Joints{-4, 18, -9}, api.Joints{4, 18, 9}), 1, api.Joints{-9, -9, 9}, api.Joints{9, 9, 18}),
		limited(limited(c, 0, api.Joints{0, 9, 0}, api.Joints{0, 9, 0}), 1, api.Joints{18, -9, 0}, api.Joints{18, -9, 0}),
	}
}

// drawIn returns a number from low to high.
func drawIn(r *rand.Rand, low, high int) int { return low + r.Intn(high-low+1) }

// drawJoints returns joint values within the limits of an arm, often at them.
func drawJoints(r *rand.Rand, a api.Arm) api.Joints {
	var q api.Joints
	for k := range q {
		q[k] = []int{a.Low[k], a.High[k], drawIn(r, a.Low[k], a.High[k]), drawIn(r, a.Low[k], a.High[k])}[r.Intn(4)]
	}
	return q
}

// drawNear returns joint values within the limits of an arm or just beyond them.
func drawNear(r *rand.Rand, a api.Arm) api.Joints {
	q := drawJoints(r, a)
	if r.Intn(2) == 0 {
		k := r.Intn(3)
		q[k] = []int{a.Low[k] - 1, a.High[k] + 1, drawIn(r, -20, 20), drawIn(r, -999999999, 999999999)}[r.Intn(4)]
	}
	return q
}

// names are names that places and parts may have, and unknown the names that neither have. Some differ in little.
var (
	names   = []string{"a", "A", "b", "ab", "a_", "a1", "belt", "cup", "Go", "abcdefghijkl", "abcdefghijkm", "bcdefghijklm", "x", "y", "z", "left", "right"}
	unknown = []string{"B", "aa", "abcdefghijk", "X", "lef"}
)

// drawPlace returns a place with a name: one that an arm reaches, that it would reach but for its limits, that both reach, or that is moved or turned a little.
func drawPlace(r *rand.Rand, c api.Cell, name string) api.Place {
	a := c.Arms[r.Intn(2)]
	if r.Intn(3) == 0 {
		a.Low, a.High = api.Joints{-17, -17, -17}, api.Joints{18, 18, 18}
	}
	x := poseOf(a, drawJoints(r, a))
	other := c.Arms[1]
	for range 60 * r.Intn(2) {
		if y := poseOf(c.Arms[0], drawJoints(r, c.Arms[0])); posesOf(other)[y] {
			x = y
			break
		}
	}
	switch r.Intn(8) {
	case 0:
		x.at.X += 16 * drawIn(r, -2, 2)
	case 1:
		x.d = api.Direction{X: -x.d.Y, Y: x.d.X, N: 3}
	}
	return api.Place{Name: name, At: x.at, Dir: x.d}
}

// drawCell returns a valid cell with up to 16 places and 8 parts.
func drawCell(r *rand.Rand, stations []api.Cell) api.Cell {
	c := stations[r.Intn(len(stations))]
	for _, i := range r.Perm(len(names))[:r.Intn(17)] {
		c.Places = append(c.Places, drawPlace(r, c, names[i]))
	}
	where, order := r.Perm(len(c.Places)), r.Perm(len(names))
	for i := range r.Intn(min(len(c.Places), 8) + 1) {
		c.Parts = append(c.Parts, drawPart(names[order[i]], where[i]))
	}
	return c
}

// drawPart returns a part with a name at a place.
func drawPart(name string, place int) api.Part {
	return api.Part{Name: name, Place: place, Shape: api.Polygon{{X: -1, Y: -1}, {X: 1, Y: -1}, {X: 0, Y: 1}}}
}

// drawName returns a name, often one that some names have.
func drawName(r *rand.Rand, l []string) string {
	if len(l) > 0 && r.Intn(4) > 0 {
		return l[r.Intn(len(l))]
	}
	return slices.Concat(names, unknown)[r.Intn(len(names)+len(unknown))]
}

// drawBoth returns a Both, often one that takes both arms to one point.
func drawBoth(r *rand.Rand, c api.Cell) api.Stmt {
	s := api.Stmt{Kind: api.Both, To: [2]api.Joints{drawNear(r, c.Arms[0]), drawNear(r, c.Arms[1])}}
	if len(c.Places) == 0 || r.Intn(2) == 0 {
		return s
	}
	p := c.Places[r.Intn(len(c.Places))]
	for k, a := range c.Arms {
		if r.Intn(3) == 0 {
			a.Low, a.High = api.Joints{-17, -17, -17}, api.Joints{18, 18, 18}
		}
		if l := invkin.Solve(a, p.At, p.Dir); len(l) > 0 {
			s.To[k] = l[r.Intn(len(l))]
		}
	}
	return s
}

// drawStmt returns a statement without Kids.
func drawStmt(r *rand.Rand, c api.Cell) api.Stmt {
	var places, parts []string
	for _, p := range c.Places {
		places = append(places, p.Name)
	}
	for _, p := range c.Parts {
		parts = append(parts, p.Name)
	}
	s := api.Stmt{Kind: drawIn(r, 1, 8)}
	switch s.Kind {
	case api.Go, api.Home, api.Pick, api.Put, api.Hand:
		s.Arm = r.Intn(2)
	case api.Both:
		return drawBoth(r, c)
	}
	switch s.Kind {
	case api.Go:
		s.To[s.Arm] = drawNear(r, c.Arms[s.Arm])
	case api.Pick:
		s.Part = drawName(r, parts)
	case api.Put, api.Hand:
		s.Place = drawName(r, places)
	case api.When:
		s.Place, s.Part = drawName(r, places), drawName(r, parts)
	case api.Wait:
		s.N = []int{-1, 0, 1, 2000, 2001, drawIn(r, -3000, 3000), drawIn(r, -999999999, 999999999)}[r.Intn(7)]
	}
	return s
}

// drawStmts returns at most most statements, nested ones included, in depth Whens.
func drawStmts(r *rand.Rand, c api.Cell, most, depth int) []api.Stmt {
	var l []api.Stmt
	for left := r.Intn(most + 1); left > 0; left-- {
		s := drawStmt(r, c)
		if s.Kind == api.When && depth == 4 {
			continue
		}
		if s.Kind == api.When {
			s.Kids = drawStmts(r, c, left-1, depth+1)
			left -= len(listed(s.Kids))
		}
		l = append(l, s)
	}
	return l
}

// drawJob returns a list of at most most statements with offsets that differ, in no particular order.
func drawJob(r *rand.Rand, c api.Cell, most int) []api.Stmt {
	l := drawStmts(r, c, most, 0)
	offsets := r.Perm(200)
	var number func(l []api.Stmt)
	number = func(l []api.Stmt) {
		for i := range l {
			l[i].At, offsets = offsets[0]-50, offsets[1:]
			number(l[i].Kids)
		}
	}
	number(l)
	return l
}
