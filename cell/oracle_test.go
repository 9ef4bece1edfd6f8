package cell_test

import (
	"fmt"
	"math/big"
	"math/rand"
	"reflect"
	"regexp"
	"slices"
	"strconv"
	"strings"
	"sync"

	"ambidexter/api"
	"ambidexter/arm"
	"ambidexter/polygon"
)

// unit is the number of fixed-point steps per unit of length, length the length of a direction of exponent 3.
const (
	unit   = 4394000
	length = 65 * 65 * 65
)

// pt is a point, and units a point with whole units as coordinates.
func pt(x, y int) api.Point    { return api.Point{X: x, Y: y} }
func units(x, y int) api.Point { return pt(unit*x, unit*y) }

// plus and minus return the sum and the difference of two points.
func plus(a, b api.Point) api.Point  { return pt(a.X+b.X, a.Y+b.Y) }
func minus(a, b api.Point) api.Point { return pt(a.X-b.X, a.Y-b.Y) }

// cross and dot return the products of two vectors.
func cross(u, v api.Point) int { return u.X*v.Y - u.Y*v.X }
func dot(u, v api.Point) int   { return u.X*v.X + u.Y*v.Y }

// directions are all valid directions of exponent 3: the vectors with integer coordinates and the length 65*65*65.
var directions = sync.OnceValue(func() []api.Direction {
	var l []api.Direction
	for x := -length; x <= length; x++ {
		y := new(big.Int).Sqrt(big.NewInt(int64(length*length - x*x)))
		n := int(y.Int64())
		if x*x+n*n != length*length {
			continue
		}
		l = append(l, api.Direction{X: x, Y: n, N: 3})
		if n > 0 {
			l = append(l, api.Direction{X: x, Y: -n, N: 3})
		}
	}
	return l
})

// isWithin reports whether x is at most most away from 0, for all numbers.
func isWithin(x, most int) bool { return x <= most && x >= -most }

// nameForm is what a valid name is.
var nameForm = regexp.MustCompile(`^[a-zA-Z][a-zA-Z0-9_]{0,11}$`)

// isValid is the section Types.
func isValid(c api.Cell) bool {
	return isValidArm(c.Arms[0], c.Home[0]) && isValidArm(c.Arms[1], c.Home[1]) &&
		areValidAreas(c) && areValidPlaces(c) && areValidParts(c) && areValidNumbers(c)
}

// isValidArm is the condition on an arm with its home, with sums and products in numbers of any size.
func isValidArm(a api.Arm, home api.Joints) bool {
	reach := big.NewInt(15)
	for _, n := range a.Lens {
		reach.Add(reach, big.NewInt(int64(n)))
	}
	reach.Mul(reach, big.NewInt(9*unit))
	for _, x := range []int{a.Base.X, a.Base.Y} {
		sum := new(big.Int).Abs(big.NewInt(int64(x)))
		sum.Mul(sum, big.NewInt(8))
		if sum.Add(sum, reach).Cmp(big.NewInt(800*unit)) > 0 {
			return false
		}
	}
	for k, q := range home {
		if q < a.Low[k] || q > a.High[k] {
			return false
		}
	}
	return arm.Valid(a)
}

// areValidAreas is the condition on fixtures and zones.
func areValidAreas(c api.Cell) bool {
	areas := slices.Clone(c.Fixtures)
	for _, z := range c.Zones {
		areas = append(areas, z.Area)
	}
	invalid := func(p api.Polygon) bool { return !polygon.Valid(p) }
	return len(c.Fixtures) <= 16 && len(c.Zones) <= 16 && !slices.ContainsFunc(areas, invalid)
}

// areValidPlaces is the condition on places.
func areValidPlaces(c api.Cell) bool {
	seen := map[string]bool{}
	for _, p := range c.Places {
		seen[p.Name] = true
		onGrid := p.At.X%16 == 0 && p.At.Y%16 == 0 && isWithin(p.At.X, 85*unit) && isWithin(p.At.Y, 85*unit)
		if !nameForm.MatchString(p.Name) || !onGrid || !slices.Contains(directions(), p.Dir) {
			return false
		}
	}
	return len(c.Places) <= 16 && len(seen) == len(c.Places)
}

// areValidParts is the condition on parts.
func areValidParts(c api.Cell) bool {
	names, places := map[string]bool{}, map[int]bool{}
	for _, p := range c.Parts {
		names[p.Name], places[p.Place] = true, true
		if !nameForm.MatchString(p.Name) || p.Place < 0 || p.Place >= len(c.Places) || !isShape(p.Shape) {
			return false
		}
	}
	return len(c.Parts) <= 8 && len(names) == len(c.Parts) && len(places) == len(c.Parts)
}

// isShape is the condition on shapes: triangles and strictly convex quadrilaterals are the only valid polygons of 3 or 4 corners that are convex.
func isShape(s api.Polygon) bool {
	if len(s) != 3 && len(s) != 4 {
		return false
	}
	for _, p := range s {
		if !isWithin(p.X, 10) || !isWithin(p.Y, 10) {
			return false
		}
	}
	for i, a := range s {
		b := s[(i+1)%len(s)]
		for j := 2; j < len(s); j++ {
			if cross(minus(b, a), minus(s[(i+j)%len(s)], a)) <= 0 {
				return false
			}
		}
	}
	return true
}

// areValidNumbers is the condition on the belt, the limits and the numbers.
func areValidNumbers(c api.Cell) bool {
	seen := map[int]bool{}
	for _, i := range c.Belt {
		if i < 0 || i >= len(c.Places) || seen[i] {
			return false
		}
		seen[i] = true
	}
	for _, x := range []struct{ n, least, most int }{
		{c.Period, 0, 100}, {c.Gap, 0, 20}, {c.Slow, 1, 8},
		{c.Limits.V, 1, 8}, {c.Limits.A, 1, 4}, {c.Limits.J, 1, 2},
		{c.Loaded.V, 1, c.Limits.V}, {c.Loaded.A, 1, c.Limits.A}, {c.Loaded.J, 1, c.Limits.J},
	} {
		if x.n < x.least || x.n > x.most {
			return false
		}
	}
	return true
}

// textOf is I3 for valid cells.
func textOf(c api.Cell) string {
	var s strings.Builder
	for k, a := range c.Arms {
		l, h, q := a.Low, a.High, c.Home[k]
		fmt.Fprintf(&s, "arm %d %d %d %d %d %d", a.Base.X, a.Base.Y, a.Lens[0], a.Lens[1], a.Lens[2], a.Wide)
		fmt.Fprintf(&s, " %d %d %d %d %d %d %d %d %d\n", l[0], l[1], l[2], h[0], h[1], h[2], q[0], q[1], q[2])
	}
	corners := func(p api.Polygon) string {
		var l string
		for _, x := range p {
			l += fmt.Sprintf(" %d %d", x.X, x.Y)
		}
		return l
	}
	for _, f := range c.Fixtures {
		fmt.Fprintf(&s, "fixture%s\n", corners(f))
	}
	for _, p := range c.Places {
		fmt.Fprintf(&s, "place %s %d %d %d %d\n", p.Name, p.At.X, p.At.Y, p.Dir.X, p.Dir.Y)
	}
	for _, p := range c.Parts {
		fmt.Fprintf(&s, "part %s %s%s\n", p.Name, c.Places[p.Place].Name, corners(p.Shape))
	}
	fmt.Fprintf(&s, "belt %d", c.Period)
	for _, i := range c.Belt {
		fmt.Fprintf(&s, " %s", c.Places[i].Name)
	}
	fmt.Fprintf(&s, "\nlimits %d %d %d\n", c.Limits.V, c.Limits.A, c.Limits.J)
	fmt.Fprintf(&s, "loaded %d %d %d\n", c.Loaded.V, c.Loaded.A, c.Loaded.J)
	for _, z := range c.Zones {
		fmt.Fprintf(&s, "zone%s\n", corners(z.Area))
	}
	fmt.Fprintf(&s, "guard %d %d\n", c.Gap, c.Slow)
	return s.String()
}

// kinds are the kinds of lines: a letter for each, its form, and which of the line's words are names.
var kinds = sync.OnceValue(func() map[string]struct {
	letter string
	form   *regexp.Regexp
	isName func(i int) bool
} {
	type kind = struct {
		letter string
		form   *regexp.Regexp
		isName func(i int) bool
	}
	m := map[string]kind{}
	add := func(word, letter, form string, isName func(i int) bool) {
		form = strings.ReplaceAll(strings.ReplaceAll(form, "N", `( (0|-?[1-9][0-9]*))`), "W", `( [^ \n]+)`)
		m[word] = kind{letter, regexp.MustCompile("^" + word + form + "\n$"), isName}
	}
	never := func(i int) bool { return false }
	add("arm", "a", "N{15}", never)
	add("fixture", "f", "(NN)*", never)
	add("place", "p", "WNNNN", func(i int) bool { return i == 1 })
	add("part", "q", "WW(NN)*", func(i int) bool { return i == 1 || i == 2 })
	add("belt", "b", "NW*", func(i int) bool { return i >= 2 })
	add("limits", "l", "NNN", never)
	add("loaded", "m", "NNN", never)
	add("zone", "z", "(NN)*", never)
	add("guard", "g", "NN", never)
	return m
})

// beginning and whole are the sequences of letters of the first lines of a description and of all its lines.
var (
	beginning = regexp.MustCompile(`^(a(a(f*p*q*(b(l(m(z*g?)?)?)?)?)?)?)?$`)
	whole     = regexp.MustCompile(`^aaf*p*q*blmz*g$`)
)

// answer is a result of Parse.
type answer struct {
	c api.Cell
	l []api.Diagnostic
}

// refusal is the answer with a diagnostic.
func refusal(err api.Errno, at int) answer { return answer{l: []api.Diagnostic{{Err: err, At: at}}} }

// answerTo is I4.
func answerTo(s string) answer {
	lines := strings.SplitAfter(s, "\n")
	rest := lines[len(lines)-1]
	lines = lines[:len(lines)-1]
	letters, at := "", 0
	var places []string
	for _, line := range lines {
		words := strings.Split(strings.TrimSuffix(line, "\n"), " ")
		k, known := kinds()[words[0]]
		letters += k.letter
		if !known || !beginning.MatchString(letters) || !k.form.MatchString(line) || !hasKnownWords(words, places) {
			return refusal(api.ErrForm, at)
		}
		if words[0] == "place" {
			places = append(places, words[1])
		}
		at += len(line)
	}
	if rest != "" || !whole.MatchString(letters) {
		return refusal(api.ErrEnd, len(s))
	}
	c := described(lines, places)
	if !isValid(c) {
		return refusal(api.ErrCell, 0)
	}
	return answer{c: c}
}

// hasKnownWords reports whether the numbers of a line of the right form are in their range and its places among the known ones.
func hasKnownWords(words, places []string) bool {
	for i, word := range words {
		isReference := words[0] == "part" && i == 2 || words[0] == "belt" && i >= 2
		if isReference && !slices.Contains(places, word) {
			return false
		}
		if i == 0 || kinds()[words[0]].isName(i) {
			continue
		}
		n, _ := new(big.Int).SetString(word, 10)
		if n.CmpAbs(big.NewInt(1099511627776)) > 0 {
			return false
		}
	}
	return true
}

// described returns the cell that acceptable lines describe.
func described(lines, places []string) api.Cell {
	var c api.Cell
	for i, line := range lines {
		words := strings.Split(strings.TrimSuffix(line, "\n"), " ")
		var n []int
		for j, word := range words {
			if j > 0 && !kinds()[words[0]].isName(j) {
				x, _ := strconv.Atoi(word)
				n = append(n, x)
			}
		}
		var corners api.Polygon
		for j := 0; j+1 < len(n); j += 2 {
			corners = append(corners, pt(n[j], n[j+1]))
		}
		switch words[0] {
		case "arm":
			c.Arms[i] = api.Arm{Base: pt(n[0], n[1]), Lens: [3]int(n[2:5]), Wide: n[5], Low: api.Joints(n[6:9]), High: api.Joints(n[9:12])}
			c.Home[i] = api.Joints(n[12:15])
		case "fixture":
			c.Fixtures = append(c.Fixtures, corners)
		case "place":
			c.Places = append(c.Places, api.Place{Name: words[1], At: pt(n[0], n[1]), Dir: api.Direction{X: n[2], Y: n[3], N: 3}})
		case "part":
			c.Parts = append(c.Parts, api.Part{Name: words[1], Place: slices.Index(places, words[2]), Shape: corners})
		case "belt":
			c.Period = n[0]
			for _, word := range words[2:] {
				c.Belt = append(c.Belt, slices.Index(places, word))
			}
		case "limits":
			c.Limits = api.Limits{V: n[0], A: n[1], J: n[2]}
		case "loaded":
			c.Loaded = api.Limits{V: n[0], A: n[1], J: n[2]}
		case "zone":
			c.Zones = append(c.Zones, api.Zone{Area: corners})
		case "guard":
			c.Gap, c.Slow = n[0], n[1]
		}
	}
	return c
}

// cloned returns a copy of a cell that shares no memory with it.
func cloned(c api.Cell) api.Cell {
	c.Fixtures = slices.Clone(c.Fixtures)
	for i := range c.Fixtures {
		c.Fixtures[i] = slices.Clone(c.Fixtures[i])
	}
	c.Zones = slices.Clone(c.Zones)
	for i := range c.Zones {
		c.Zones[i].Area = slices.Clone(c.Zones[i].Area)
	}
	c.Parts = slices.Clone(c.Parts)
	for i := range c.Parts {
		c.Parts[i].Shape = slices.Clone(c.Parts[i].Shape)
	}
	c.Places, c.Belt = slices.Clone(c.Places), slices.Clone(c.Belt)
	return c
}

// leaves calls f with each number and each name of a cell, and with a description of where it is.
func leaves(c *api.Cell, f func(where string, v reflect.Value)) {
	walk(reflect.ValueOf(c).Elem(), "", func(where string, v reflect.Value) {
		if v.Kind() == reflect.Int || v.Kind() == reflect.String {
			f(where, v)
		}
	})
}

// lists calls f with each list of a cell, and with a description of where it is.
func lists(c *api.Cell, f func(where string, v reflect.Value)) {
	walk(reflect.ValueOf(c).Elem(), "", func(where string, v reflect.Value) {
		if v.Kind() == reflect.Slice {
			f(where, v)
		}
	})
}

// walk calls f with v and everything within it.
func walk(v reflect.Value, where string, f func(where string, v reflect.Value)) {
	f(where, v)
	switch v.Kind() {
	case reflect.Struct:
		for i := range v.NumField() {
			walk(v.Field(i), where+"."+v.Type().Field(i).Name, f)
		}
	case reflect.Array, reflect.Slice:
		for i := range v.Len() {
			walk(v.Index(i), fmt.Sprintf("%s[%d]", where, i), f)
		}
	}
}

// same reports whether two cells are equal, with nil and empty lists taken as equal.
func same(a, b api.Cell) bool {
	a, b = cloned(a), cloned(b)
	for _, c := range []*api.Cell{&a, &b} {
		lists(c, func(where string, v reflect.Value) {
			if v.Len() == 0 {
				v.SetZero()
			}
		})
	}
	return reflect.DeepEqual(a, b)
}

// drawIn returns a number from low to high.
func drawIn(r *rand.Rand, low, high int) int { return low + r.Intn(high-low+1) }

// drawArm returns an arm that a valid cell may have, and its home.
func drawArm(r *rand.Rand) (api.Arm, api.Joints) {
	a := api.Arm{Wide: drawIn(r, 1, 4), Lens: [3]int{80, 0, 0}}
	most := drawIn(r, 1, 40)
	for a.Lens[0]+a.Lens[1]+a.Lens[2] > 73 {
		a.Lens = [3]int{drawIn(r, 1, most), drawIn(r, 1, most), drawIn(r, 1, most)}
	}
	steps := room(a) / 16
	a.Base = pt(16*drawIn(r, -steps, steps), 16*drawIn(r, -steps, steps))
	var home api.Joints
	for k := range 3 {
		x, y := drawIn(r, -17, 18), drawIn(r, -17, 18)
		a.Low[k], a.High[k] = min(x, y), max(x, y)
		home[k] = drawIn(r, a.Low[k], a.High[k])
	}
	return a, home
}

// room returns the largest coordinate that the base of an arm may have, on the grid or off it.
func room(a api.Arm) int { return (800 - 9*(a.Lens[0]+a.Lens[1]+a.Lens[2]+15)) * unit / 8 }

// drawArea returns a valid polygon: a triangle, a box, a box with a notch, or one with 12 corners.
func drawArea(r *rand.Rand) api.Polygon {
	at := pt(drawIn(r, -60*unit, 60*unit), drawIn(r, -60*unit, 60*unit))
	x, y := drawIn(r, 3, 10*unit), drawIn(r, 3, 10*unit)
	p := []api.Polygon{
		{pt(0, 0), pt(x, 0), pt(x/2, y)},
		{pt(0, 0), pt(x, 0), pt(x, y), pt(0, y)},
		{pt(0, 0), pt(x, 0), pt(x, y), pt(2*x/3, y), pt(2*x/3, y/2), pt(x/3, y/2), pt(x/3, y), pt(0, y)},
		{pt(x, 0), pt(2*x, 0), pt(2*x, y), pt(3*x, y), pt(3*x, 2*y), pt(2*x, 2*y), pt(2*x, 3*y), pt(x, 3*y), pt(x, 2*y), pt(0, 2*y), pt(0, y), pt(x, y)},
	}[r.Intn(4)]
	for i := range p {
		p[i] = plus(p[i], at)
	}
	return p
}

// drawAreas returns up to 16 valid polygons.
func drawAreas(r *rand.Rand) []api.Polygon {
	var l []api.Polygon
	for range r.Intn(4) * r.Intn(5) {
		l = append(l, drawArea(r))
	}
	for len(l) > 0 && len(l) < 16 && r.Intn(8) == 0 {
		l = append(l, slices.Repeat(l, 16/len(l))...)
		l = l[:min(len(l), 16)]
	}
	return l
}

// drawName returns a valid name.
func drawName(r *rand.Rand) string {
	const letters = "abcdefghijklmnopqrstuvwxyzABCDEFGHIJKLMNOPQRSTUVWXYZ"
	name := []byte{letters[r.Intn(len(letters))]}
	for range r.Intn(12) {
		name = append(name, (letters + "0123456789_")[r.Intn(len(letters)+11)])
	}
	return string(name)
}

// drawNames returns n valid names that are different.
func drawNames(r *rand.Rand, n int) []string {
	var l []string
	for len(l) < n {
		if name := drawName(r); !slices.Contains(l, name) {
			l = append(l, name)
		}
	}
	return l
}

// drawShape returns a shape that a part may have.
func drawShape(r *rand.Rand) api.Polygon {
	for {
		most := drawIn(r, 1, 10)
		var s api.Polygon
		for range 3 + r.Intn(2) {
			s = append(s, pt(drawIn(r, -most, most), drawIn(r, -most, most)))
		}
		if isShape(s) {
			return s
		}
	}
}

// drawLimits returns limits of which none exceeds the one of most.
func drawLimits(r *rand.Rand, most api.Limits) api.Limits {
	return api.Limits{V: drawIn(r, 1, most.V), A: drawIn(r, 1, most.A), J: drawIn(r, 1, most.J)}
}

// drawCell returns a valid cell.
func drawCell(r *rand.Rand) api.Cell {
	var c api.Cell
	for k := range 2 {
		c.Arms[k], c.Home[k] = drawArm(r)
	}
	c.Fixtures = drawAreas(r)
	for _, p := range drawAreas(r) {
		c.Zones = append(c.Zones, api.Zone{Area: p})
	}
	for _, name := range drawNames(r, r.Intn(17)) {
		at := pt(16*drawIn(r, -85*unit/16, 85*unit/16), 16*drawIn(r, -85*unit/16, 85*unit/16))
		c.Places = append(c.Places, api.Place{Name: name, At: at, Dir: directions()[r.Intn(len(directions()))]})
	}
	places := r.Perm(len(c.Places))
	for i, name := range drawNames(r, r.Intn(min(len(places), 8)+1)) {
		c.Parts = append(c.Parts, api.Part{Name: name, Shape: drawShape(r), Place: places[i]})
	}
	c.Belt = r.Perm(len(c.Places))[:r.Intn(len(c.Places)+1)]
	c.Period, c.Gap, c.Slow = drawIn(r, 0, 100), drawIn(r, 0, 20), drawIn(r, 1, 8)
	c.Limits = drawLimits(r, api.Limits{V: 8, A: 4, J: 2})
	c.Loaded = drawLimits(r, c.Limits)
	return c
}
