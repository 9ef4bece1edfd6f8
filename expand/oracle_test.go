package expand_test

import (
	"math/rand"
	"slices"
	"sync"
	"testing"

	"ambidexter/api"
	"ambidexter/arm"
	"ambidexter/cell"
	"ambidexter/parser"
)

// unit is the number of fixed-point steps per unit of length.
const unit = 4394000

// bench is a cell whose arms stand 20 units apart and reach 20 units far. Both reach middle, lower and side, the left one left and west, the right one right, and none far. West is at the point of middle. A part has the name of the place left.
const bench = `arm -43940000 0 10 5 5 1 -17 -17 -17 18 18 18 9 0 0
arm 43940000 0 10 5 5 1 -17 -17 -17 18 18 18 9 0 -1
place middle 0 43940000 0 274625
place lower 0 -43940000 0 -274625
place side 21970000 21970000 0 274625
place left -87880000 43940000 0 274625
place right 87880000 43940000 0 274625
place west 0 43940000 274625 0
place far 0 219700000 0 274625
part nut middle -1 -1 1 -1 0 1
part bolt lower -1 -1 1 -1 0 1
part left far -1 -1 1 -1 0 1
belt 0
limits 8 4 2
loaded 8 4 2
guard 0 8
`

// The indices of the places of bench.
const (
	middle = iota
	lower
	side
	left
	right
	west
	far
)

// The indices of the parts of bench.
const (
	nut = iota
	bolt
	leftPart
)

// Joint values with which an arm of bench is at a place.
var (
	atMiddle      = [2]api.Joints{{0, 9, 0}, {18, -9, 0}}
	otherAtMiddle = [2]api.Joints{{5, -9, 13}, {13, 9, -13}}
	atLower       = [2]api.Joints{{0, -9, 0}, {18, 9, 0}}
	otherAtLower  = [2]api.Joints{{-5, 9, -13}, {-13, -9, 13}}
	atSide        = [2]api.Joints{{0, 0, 9}, {18, 18, 9}}
)

// described is the valid cell with a description.
func described(t *testing.T, text string) api.Cell {
	t.Helper()
	c, l := cell.Parse(text)
	if len(l) > 0 {
		t.Fatalf("no cell has the description %q: %v", text, l)
	}
	return c
}

// statements are the statements of a text without faults.
func statements(t *testing.T, text string) []api.Stmt {
	t.Helper()
	l, faults := parser.Parse(text)
	if len(faults) > 0 {
		t.Fatalf("%q has the faults %v", text, faults)
	}
	return l
}

// cloned returns a state that shares no memory with w.
func cloned(w api.State) api.State {
	return api.State{Q: w.Q, Held: w.Held, Where: slices.Clone(w.Where)}
}

// standing returns a state that differs from w in the joint values of an arm.
func standing(w api.State, k int, q api.Joints) api.State {
	w = cloned(w)
	w.Q[k] = q
	return w
}

// holding returns a state that differs from w in that an arm holds a part.
func holding(w api.State, k, part int) api.State {
	w = cloned(w)
	w.Held[k], w.Where[part] = part, -1
	return w
}

// resting returns a state that differs from w in that a part that no arm holds is at a place, or lost if that is -1.
func resting(w api.State, part, place int) api.State {
	w = cloned(w)
	w.Where[part] = place
	return w
}

// The kinds of steps.
func goes(k int, q api.Joints) api.Step {
	if k == 0 {
		return api.Step{Kind: 1, To: [2]api.Joints{q, {}}}
	}
	return api.Step{Kind: 1, Arm: 1, To: [2]api.Joints{{}, q}}
}
func both(q0, q1 api.Joints) api.Step { return api.Step{Kind: 2, To: [2]api.Joints{q0, q1}} }
func takes(k, part, place int) api.Step {
	return api.Step{Kind: 3, Arm: k, Part: part, Place: place}
}
func leaves(k, part, place int) api.Step {
	return api.Step{Kind: 4, Arm: k, Part: part, Place: place}
}
func waits(n int) api.Step { return api.Step{Kind: 5, N: n} }

// pose is a position of the tool center point of an arm with the direction of its last link.
type pose struct {
	at api.Point
	d  api.Direction
}

// poseOf adds up the links of an arm.
func poseOf(a api.Arm, q api.Joints) pose {
	directions, at, scale := arm.LinkDirections(a, q), a.Base, unit
	for k, d := range directions {
		scale /= 65
		at.X += scale * a.Lens[k] * d.X
		at.Y += scale * a.Lens[k] * d.Y
	}
	return pose{at, directions[2]}
}

// known keeps the solutions of arms, because several tests ask for those of the same arms.
var known = struct {
	sync.Mutex
	solutions map[api.Arm]map[pose][]api.Joints
}{solutions: map[api.Arm]map[pose][]api.Joints{}}

// solutionsOf are, for each pose of an arm, all joint values within its limits that lead there, in lexicographic order.
func solutionsOf(a api.Arm) map[pose][]api.Joints {
	known.Lock()
	defer known.Unlock()
	if known.solutions[a] == nil {
		m := map[pose][]api.Joints{}
		for x := a.Low[0]; x <= a.High[0]; x++ {
			for y := a.Low[1]; y <= a.High[1]; y++ {
				for z := a.Low[2]; z <= a.High[2]; z++ {
					q := api.Joints{x, y, z}
					m[poseOf(a, q)] = append(m[poseOf(a, q)], q)
				}
			}
		}
		known.solutions[a] = m
	}
	return known.solutions[a]
}

// chosen are the joint values that an arm takes at a place: the first ones among the nearest.
func chosen(a api.Arm, p api.Place, from api.Joints) (api.Joints, bool) {
	solutions := slices.Clone(solutionsOf(a)[pose{p.At, p.Dir}])
	slices.SortStableFunc(solutions, func(q, r api.Joints) int { return apart(q, from) - apart(r, from) })
	if len(solutions) == 0 {
		return api.Joints{}, false
	}
	return solutions[0], true
}

// apart is the number of steps from q to r.
func apart(q, r api.Joints) int {
	n := 0
	for k := range q {
		n += max(q[k], r[k]) - min(q[k], r[k])
	}
	return n
}

// allows tells whether joint values are within the limits of an arm.
func allows(a api.Arm, q api.Joints) bool {
	for k := range 3 {
		if min(max(q[k], a.Low[k]), a.High[k]) != q[k] {
			return false
		}
	}
	return true
}

// list collects errors that apply.
type list []api.Errno

// when adds an error if it applies.
func (l *list) when(applies bool, err api.Errno) {
	if applies {
		*l = append(*l, err)
	}
}

// errorsOfStep are the errors that M1 lists for a step, in its order, as far as they apply. For an arm, a part or a place that does not exist, no error but ErrArg applies.
func errorsOfStep(c api.Cell, w api.State, s api.Step) []api.Errno {
	var l list
	isArm, isPart, isPlace := s.Arm == 0 || s.Arm == 1, s.Part >= 0 && s.Part < len(c.Parts), s.Place >= 0 && s.Place < len(c.Places)
	within := func(k int) bool { return allows(c.Arms[k], s.To[k]) }
	away := func() bool {
		p := c.Places[s.Place]
		return poseOf(c.Arms[s.Arm], w.Q[s.Arm]) != pose{p.At, p.Dir}
	}
	l.when(s.Kind < 1 || s.Kind > 5 || !isArm, api.ErrArg)
	switch s.Kind {
	case 1:
		l.when(isArm && !within(s.Arm), api.ErrRange)
	case 2:
		l.when(!within(0) || !within(1), api.ErrRange)
	case 3:
		l.when(!isPart || !isPlace, api.ErrArg)
		l.when(isArm && w.Held[s.Arm] >= 0, api.ErrHeld)
		l.when(isPart && w.Where[s.Part] != s.Place, api.ErrMissing)
		l.when(isArm && isPlace && away(), api.ErrUnreachable)
	case 4:
		l.when(!isPart || !isPlace, api.ErrArg)
		l.when(isArm && w.Held[s.Arm] != s.Part, api.ErrEmptyHand)
		l.when(isPlace && slices.Index(w.Where, s.Place) >= 0, api.ErrOccupied)
		l.when(isArm && isPlace && away(), api.ErrUnreachable)
	case 5:
		l.when(s.N < 0 || s.N > 2000, api.ErrArg)
	}
	return l
}

// stateAfter is the effect of a step without errors.
func stateAfter(w api.State, s api.Step) api.State {
	w = cloned(w)
	switch s.Kind {
	case 1:
		w.Q[s.Arm] = s.To[s.Arm]
	case 2:
		w.Q[0], w.Q[1] = s.To[0], s.To[1]
	case 3:
		w.Held[s.Arm] = s.Part
		w.Where[s.Part] = -1
	case 4:
		w.Held[s.Arm] = -1
		w.Where[s.Part] = s.Place
	}
	return w
}

// applied is M1.
func applied(c api.Cell, w api.State, s api.Step) (api.State, api.Errno) {
	if l := errorsOfStep(c, w, s); len(l) > 0 {
		return w, l[0]
	}
	return stateAfter(w, s), api.OK
}

// placeOf is the index of the place with a name, and partOf that of a part; -1 if there is none.
func placeOf(c api.Cell, name string) int {
	for i, p := range c.Places {
		if p.Name == name {
			return i
		}
	}
	return -1
}
func partOf(c api.Cell, name string) int {
	for i, p := range c.Parts {
		if p.Name == name {
			return i
		}
	}
	return -1
}

// errorsOfStmt are the errors that M2 lists for a statement, apart from those of Kids and ErrBig, in its order, as far as they apply. A part that is at no place cannot be unreachable.
func errorsOfStmt(c api.Cell, w api.State, s api.Stmt) []api.Errno {
	var l list
	reaches := func(k, place int) bool {
		_, ok := chosen(c.Arms[k], c.Places[place], w.Q[k])
		return ok
	}
	holds, place := w.Held[s.Arm] >= 0, placeOf(c, s.Place)
	switch s.Kind {
	case api.Pick:
		where := w.Where[partOf(c, s.Part)]
		l.when(holds, api.ErrHeld)
		l.when(where < 0, api.ErrMissing)
		l.when(where >= 0 && !reaches(s.Arm, max(where, 0)), api.ErrUnreachable)
	case api.Put:
		l.when(!holds, api.ErrEmptyHand)
		l.when(slices.Index(w.Where, place) >= 0, api.ErrOccupied)
		l.when(!reaches(s.Arm, place), api.ErrUnreachable)
	case api.Hand:
		l.when(!holds, api.ErrEmptyHand)
		l.when(w.Held[1-s.Arm] >= 0, api.ErrHeld)
		l.when(slices.Index(w.Where, place) >= 0, api.ErrOccupied)
		l.when(!reaches(0, place) || !reaches(1, place), api.ErrUnreachable)
	}
	return l
}

// stepsOf are the steps that M2 lists for a statement without errors that is no When.
func stepsOf(c api.Cell, w api.State, s api.Stmt) []api.Step {
	to := func(k, place int) api.Step {
		q, _ := chosen(c.Arms[k], c.Places[place], w.Q[k])
		return goes(k, q)
	}
	held, place := w.Held[s.Arm], placeOf(c, s.Place)
	switch s.Kind {
	case api.Go:
		return []api.Step{goes(s.Arm, s.To[s.Arm])}
	case api.Home:
		return []api.Step{goes(s.Arm, c.Home[s.Arm])}
	case api.Pick:
		part := partOf(c, s.Part)
		where := w.Where[part]
		return []api.Step{to(s.Arm, where), takes(s.Arm, part, where)}
	case api.Put:
		return []api.Step{to(s.Arm, place), leaves(s.Arm, held, place)}
	case api.Hand:
		return []api.Step{to(s.Arm, place), leaves(s.Arm, held, place), goes(s.Arm, w.Q[s.Arm]), to(1-s.Arm, place), takes(1-s.Arm, held, place)}
	case api.Wait:
		return []api.Step{waits(s.N)}
	}
	return []api.Step{both(s.To[0], s.To[1])}
}

// applies tells whether the Kids of a When are expanded.
func applies(c api.Cell, w api.State, s api.Stmt) bool {
	return w.Where[partOf(c, s.Part)] == placeOf(c, s.Place)
}

// answerTo is M2, with the state behind the steps.
func answerTo(c api.Cell, l []api.Stmt, w api.State) ([]api.Step, api.Diagnostic, api.State) {
	var steps []api.Step
	for rest := l; len(rest) > 0; {
		s := rest[0]
		rest = rest[1:]
		if s.Kind == api.When {
			if applies(c, w, s) {
				rest = slices.Concat(s.Kids, rest)
			}
			continue
		}
		if errors := errorsOfStmt(c, w, s); len(errors) > 0 {
			return steps, api.Diagnostic{Err: errors[0], At: s.At}, w
		}
		more := stepsOf(c, w, s)
		if len(steps)+len(more) > 300 {
			return steps, api.Diagnostic{Err: api.ErrBig, At: s.At}, w
		}
		steps = append(steps, more...)
		for _, step := range more {
			w = stateAfter(w, step)
		}
	}
	return steps, api.Diagnostic{}, w
}

// isState tells whether a workspace state is valid.
func isState(c api.Cell, w api.State) bool {
	holders, resters := map[int]bool{}, map[int]bool{}
	for k, part := range w.Held {
		if !allows(c.Arms[k], w.Q[k]) || part < -1 || part >= len(c.Parts) || holders[part] {
			return false
		}
		if part >= 0 {
			holders[part] = true
		}
	}
	for part, place := range w.Where {
		if place < -1 || place >= len(c.Places) || resters[place] || place >= 0 && holders[part] {
			return false
		}
		if place >= 0 {
			resters[place] = true
		}
	}
	return len(w.Where) == len(c.Parts)
}

// countOf is the number of statements of a program.
func countOf(l []api.Stmt) int {
	n := len(l)
	for _, s := range l {
		if s.Kind == api.When {
			n += countOf(s.Kids)
		}
	}
	return n
}

// isProgram tells whether a program that is nested in depth Whens is well-formed.
func isProgram(c api.Cell, l []api.Stmt, depth int) bool {
	if countOf(l) > 64 {
		return false
	}
	for _, s := range l {
		if s.Kind < 1 || s.Kind > 8 || s.Arm < 0 || s.Arm > 1 || s.At < 0 || s.At > 1<<40 {
			return false
		}
		isPart, isPlace := partOf(c, s.Part) >= 0, placeOf(c, s.Place) >= 0
		fits := true
		switch s.Kind {
		case api.Go:
			fits = allows(c.Arms[s.Arm], s.To[s.Arm])
		case api.Both:
			fits = allows(c.Arms[0], s.To[0]) && allows(c.Arms[1], s.To[1])
		case api.Pick:
			fits = isPart
		case api.Put, api.Hand:
			fits = isPlace
		case api.Wait:
			fits = s.N >= 0 && s.N <= 2000
		case api.When:
			fits = isPart && isPlace && depth < 4 && isProgram(c, s.Kids, depth+1)
		}
		if !fits {
			return false
		}
	}
	return true
}

// limited returns a copy of a cell with other joint limits of an arm, and the lower ones as its home.
func limited(c api.Cell, k int, low, high api.Joints) api.Cell {
	c.Arms[k].Low, c.Arms[k].High, c.Home[k] = low, high, low
	return c
}

// quick is bench with narrow joint limits, for which solutions are found faster.
func quick(t *testing.T) api.Cell {
	c := described(t, bench)
	return limited(limited(c, 0, api.Joints{0, -9, 0}, api.Joints{13, 9, 13}), 1, api.Joints{13, -9, -13}, api.Joints{18, 18, 9})
}

// bare returns a copy of a cell without places and parts.
func bare(c api.Cell) api.Cell {
	c.Places, c.Parts, c.Belt = nil, nil, nil
	return c
}

// stations are cells without places and parts: with arms apart, at one point and out of each other's reach, with all joint values, with some and with a single one.
func stations(t *testing.T) []api.Cell {
	c := bare(described(t, bench))
	together, distant, folding := c, c, c
	together.Arms[0].Base, together.Arms[1].Base = api.Point{X: 3 * unit, Y: -2 * unit}, api.Point{X: 3 * unit, Y: -2 * unit}
	distant.Arms[0].Base, distant.Arms[1].Base = api.Point{X: -30 * unit}, api.Point{X: 31 * unit}
	folding.Arms[0].Lens, folding.Arms[1].Lens = [3]int{5, 5, 3}, [3]int{2, 4, 5}
	folding.Arms[1].Base = api.Point{X: -11 * unit}
	low, high := api.Joints{9, -9, -5}, api.Joints{18, 18, 18}
	return []api.Cell{
		c, c, together, distant, folding,
		limited(c, 0, api.Joints{-9, -3, -17}, api.Joints{5, 9, 13}), limited(c, 1, low, high),
		limited(together, 1, low, high),
		limited(limited(c, 0, atMiddle[0], atMiddle[0]), 1, atMiddle[1], atMiddle[1]),
	}
}

// drawIn returns a number from low to high.
func drawIn(r *rand.Rand, low, high int) int { return low + r.Intn(high-low+1) }

// drawJoints returns joint values within the limits of an arm, often at them.
func drawJoints(r *rand.Rand, a api.Arm) api.Joints {
	var q api.Joints
	for k := range q {
		q[k] = []int{a.Low[k], a.High[k], drawIn(r, a.Low[k], a.High[k]), drawIn(r, a.Low[k], a.High[k])}[r.Intn(4)]
	}
	return q
}

// drawPlace returns a place with a name, in half of all cases one that both arms reach if there are any.
func drawPlace(r *rand.Rand, c api.Cell, name string) api.Place {
	k := r.Intn(2)
	x := poseOf(c.Arms[k], drawJoints(r, c.Arms[k]))
	for range 400 * r.Intn(2) {
		y := poseOf(c.Arms[0], drawJoints(r, c.Arms[0]))
		if len(solutionsOf(c.Arms[1])[y]) > 0 {
			x = y
			break
		}
	}
	if r.Intn(16) == 0 {
		x.at.X += 16 * drawIn(r, -1, 1)
	}
	return api.Place{Name: name, At: x.at, Dir: x.d}
}

// names are names that both places and parts may have.
var names = []string{"a", "A", "b", "ab", "a_", "a1", "belt", "cup", "Go", "abcdefghijkl", "abcdefghijkm", "bcdefghijklm", "x", "y", "z", "left", "right"}

// drawCell returns a valid cell with up to 16 places and 8 parts.
func drawCell(r *rand.Rand, stations []api.Cell) api.Cell {
	c := stations[r.Intn(len(stations))]
	for _, i := range r.Perm(len(names))[:r.Intn(17)] {
		c.Places = append(c.Places, drawPlace(r, c, names[i]))
	}
	where, order := r.Perm(len(c.Places)), r.Perm(len(names))
	for i := range r.Intn(min(len(c.Places), 8) + 1) {
		shape := api.Polygon{{X: -1, Y: -1}, {X: 1, Y: -1}, {X: 0, Y: 1}}
		c.Parts = append(c.Parts, api.Part{Name: names[order[i]], Place: where[i], Shape: shape})
	}
	return c
}

// drawState returns a valid state with parts at places, held and lost.
func drawState(r *rand.Rand, c api.Cell) api.State {
	w := api.State{Held: [2]int{-1, -1}}
	for k, a := range c.Arms {
		w.Q[k] = drawJoints(r, a)
		if len(c.Places) > 0 && r.Intn(2) == 0 {
			w.Q[k], _ = chosen(a, c.Places[r.Intn(len(c.Places))], w.Q[k])
			if !allows(a, w.Q[k]) {
				w.Q[k] = drawJoints(r, a)
			}
		}
	}
	where, order := r.Perm(len(c.Places)), r.Perm(len(c.Parts))
	w.Where = make([]int, len(c.Parts))
	for i, part := range order {
		w.Where[part] = where[i]
		if i < 2 && r.Intn(2) == 0 {
			w.Where[part], w.Held[i] = -1, part
		}
		if r.Intn(5) == 0 && i >= 2 {
			w.Where[part] = -1
		}
	}
	return w
}

// drawStmt returns a statement without Kids that is well-formed for c, whose fields that do not matter have any values. Hands are more frequent if many is true.
func drawStmt(r *rand.Rand, c api.Cell, many bool) api.Stmt {
	kinds := []int{api.Go, api.Home, api.Wait, api.Both}
	if len(c.Parts) > 0 {
		kinds = append(kinds, api.Pick, api.Pick, api.Put, api.Put, api.Hand, api.Hand, api.When, api.When)
	}
	if many && len(c.Parts) > 0 {
		kinds = append(kinds, slices.Repeat([]int{api.Hand}, 400)...)
	}
	s := api.Stmt{Kind: kinds[r.Intn(len(kinds))], Arm: r.Intn(2), At: drawIn(r, 0, 1<<40)}
	s.To = [2]api.Joints{drawJoints(r, c.Arms[0]), drawJoints(r, c.Arms[1])}
	s.N = []int{0, 1, 2000, drawIn(r, 0, 2000)}[r.Intn(4)]
	if len(c.Places) > 0 {
		s.Place = c.Places[r.Intn(len(c.Places))].Name
	}
	if len(c.Parts) > 0 {
		s.Part = c.Parts[r.Intn(len(c.Parts))].Name
	}
	if s.Kind == api.Go && r.Intn(2) == 0 {
		s.To[1-s.Arm] = api.Joints{drawIn(r, -99, 99), 19, -18}
	}
	if s.Kind != api.When && r.Intn(8) == 0 {
		s.Kids = []api.Stmt{{Kind: drawIn(r, -1, 9), Arm: drawIn(r, -1, 2), At: -1}}
	}
	return s
}

// drawFailing returns a statement that has an error in a state, like s, but all errors are about equally frequent.
func drawFailing(r *rand.Rand, c api.Cell, w api.State, s api.Stmt) api.Stmt {
	wanted := []api.Errno{api.ErrHeld, api.ErrMissing, api.ErrEmptyHand, api.ErrOccupied, api.ErrUnreachable}[r.Intn(5)]
	for range 100 {
		other := drawStmt(r, c, false)
		if l := errorsOfStmt(c, w, other); len(l) > 0 && l[0] == wanted {
			return other
		}
	}
	return s
}

// drawStmts returns at most most statements, nested ones included, in depth Whens, for execution in a state. Most statements with an error are left out, and all of them if many is true.
func drawStmts(r *rand.Rand, c api.Cell, w api.State, most, depth int, many bool) ([]api.Stmt, api.State) {
	var l []api.Stmt
	for room := most; room > 0; room-- {
		s := drawStmt(r, c, many)
		if s.Kind == api.When && depth == 4 {
			continue
		}
		for n := 0; s.Kind == api.When && !applies(c, w, s) && n < 20; n++ {
			s.Part, s.Place = c.Parts[r.Intn(len(c.Parts))].Name, c.Places[r.Intn(len(c.Places))].Name
		}
		if s.Kind == api.When {
			var behind api.State
			s.Kids, behind = drawStmts(r, c, w, r.Intn(room), depth+1, many)
			room -= countOf(s.Kids)
			if applies(c, w, s) {
				w = behind
			}
		} else if len(errorsOfStmt(c, w, s)) == 0 {
			_, _, w = answerTo(c, []api.Stmt{s}, w)
		} else if many || r.Intn(40) > 0 {
			room += min(1, r.Intn(30))
			continue
		} else {
			s = drawFailing(r, c, w, s)
		}
		l = append(l, s)
	}
	return l, w
}

// drawProgram returns a well-formed program of at most most statements for execution in a state.
func drawProgram(r *rand.Rand, c api.Cell, w api.State, most int) []api.Stmt {
	l, _ := drawStmts(r, c, w, r.Intn(most+1), 0, false)
	return l
}

// drawHands returns a well-formed program of 64 statements, or a few less, for execution in a state. Most of them are Hands, if any are possible.
func drawHands(r *rand.Rand, c api.Cell, w api.State) []api.Stmt {
	l, _ := drawStmts(r, c, w, 64, 0, true)
	return l
}
