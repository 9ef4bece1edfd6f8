package cell

import (
	"slices"
	"strconv"
	"strings"

	"ambidexter/api"
)

// The first words of the lines of a description.
const (
	wordArm     = "arm"
	wordFixture = "fixture"
	wordPlace   = "place"
	wordPart    = "part"
	wordBelt    = "belt"
	wordLimits  = "limits"
	wordLoaded  = "loaded"
	wordZone    = "zone"
	wordGuard   = "guard"
)

// mostNumber is the largest number of a description, and its opposite the smallest one.
const mostNumber = 1 << 40

// numerals returns numbers as words.
func numerals(numbers ...int) []string {
	words := make([]string, 0, len(numbers))
	for _, n := range numbers {
		words = append(words, strconv.Itoa(n))
	}
	return words
}

// coordinates returns the coordinates of all corners of p as words.
func coordinates(p api.Polygon) []string {
	var words []string
	for _, corner := range p {
		words = append(words, numerals(corner.X, corner.Y)...)
	}
	return words
}

// placeNames returns the names of the places with certain indices.
func placeNames(c api.Cell, indices ...int) []string {
	var names []string
	for _, i := range indices {
		name := ""
		// Nothing is specified for invalid cells, but their indices might be out of range.
		if isIndex(i, len(c.Places)) {
			name = c.Places[i].Name
		}
		names = append(names, name)
	}
	return names
}

// lineOf returns a line that consists of a word and further ones.
func lineOf(word string, more ...[]string) string {
	return strings.Join(append([]string{word}, slices.Concat(more...)...), " ") + "\n"
}

// armLine returns the line of an arm with certain joint values at home.
func armLine(a api.Arm, home api.Joints) string {
	return lineOf(wordArm, numerals(a.Base.X, a.Base.Y), numerals(a.Lens[:]...), numerals(a.Wide),
		numerals(a.Low[:]...), numerals(a.High[:]...), numerals(home[:]...))
}

// limitsLine returns the line of limits that begins with word.
func limitsLine(word string, l api.Limits) string { return lineOf(word, numerals(l.V, l.A, l.J)) }

// Format returns the description of a cell.
func Format(c api.Cell) string {
	var text strings.Builder
	for k, a := range c.Arms {
		text.WriteString(armLine(a, c.Home[k]))
	}
	for _, f := range c.Fixtures {
		text.WriteString(lineOf(wordFixture, coordinates(f)))
	}
	for _, p := range c.Places {
		text.WriteString(lineOf(wordPlace, []string{p.Name}, numerals(p.At.X, p.At.Y, p.Dir.X, p.Dir.Y)))
	}
	for _, p := range c.Parts {
		text.WriteString(lineOf(wordPart, []string{p.Name}, placeNames(c, p.Place), coordinates(p.Shape)))
	}
	text.WriteString(lineOf(wordBelt, numerals(c.Period), placeNames(c, c.Belt...)))
	text.WriteString(limitsLine(wordLimits, c.Limits))
	text.WriteString(limitsLine(wordLoaded, c.Loaded))
	for _, z := range c.Zones {
		text.WriteString(lineOf(wordZone, coordinates(z.Area)))
	}
	text.WriteString(lineOf(wordGuard, numerals(c.Gap, c.Slow)))
	return text.String()
}

// step is a step in the order of lines: one line that begins with a certain word, or any number of them.
type step struct {
	word string
	many bool
	read func()
}

// reader is a cell that is read line by line.
type reader struct {
	api.Cell
	steps []step         // those that may still follow
	words []string       // those of the current line that have not been read yet
	first map[string]int // the index of the first place with each name
}

// newReader returns a reader that has read nothing.
func newReader() *reader {
	r := &reader{first: map[string]int{}}
	r.steps = []step{
		{wordArm, false, r.readFirstArm},
		{wordArm, false, r.readSecondArm},
		{wordFixture, true, r.readFixture},
		{wordPlace, true, r.readPlace},
		{wordPart, true, r.readPart},
		{wordBelt, false, r.readBelt},
		{wordLimits, false, r.readLimits},
		{wordLoaded, false, r.readLoaded},
		{wordZone, true, r.readZone},
		{wordGuard, false, r.readGuard},
	}
	return r
}

// demand leaves the current line by a panic if it is not acceptable.
func demand(acceptable bool) {
	if !acceptable {
		panic(api.ErrForm)
	}
}

// accepts reads a line without its line feed and reports whether it is acceptable.
func (r *reader) accepts(line string) (acceptable bool) {
	defer func() {
		if recover() != nil {
			acceptable = false
		}
	}()
	r.words = strings.Split(line, " ")
	read := r.advance(r.word())
	read()
	demand(len(r.words) == 0)
	return true
}

// advance goes on to the step that begins with word and returns its function.
func (r *reader) advance(word string) func() {
	for len(r.steps) > 0 {
		s := r.steps[0]
		if s.word == word && s.many {
			return s.read
		}
		r.steps = r.steps[1:]
		if s.word == word {
			return s.read
		}
		demand(s.many)
	}
	panic(api.ErrForm)
}

// isComplete reports whether no line is missing.
func (r *reader) isComplete() bool { return len(r.steps) == 0 }

// word reads a word of any form.
func (r *reader) word() string {
	demand(len(r.words) > 0 && r.words[0] != "")
	word := r.words[0]
	r.words = r.words[1:]
	return word
}

// number reads a number.
func (r *reader) number() int {
	word := r.word()
	n, err := strconv.Atoi(word)
	// Atoi accepts plus signs, leading zeros and -0, too.
	demand(err == nil && strconv.Itoa(n) == word && isBetween(n, -mostNumber, mostNumber))
	return n
}

// three reads three numbers.
func (r *reader) three() [3]int { return [3]int{r.number(), r.number(), r.number()} }

// point reads a pair of coordinates.
func (r *reader) point() api.Point { return api.Point{X: r.number(), Y: r.number()} }

// corners reads all remaining words of the line as pairs of coordinates.
func (r *reader) corners() api.Polygon {
	var p api.Polygon
	for len(r.words) > 0 {
		p = append(p, r.point())
	}
	return p
}

// limits reads the limits of a joint.
func (r *reader) limits() api.Limits {
	l := r.three()
	return api.Limits{V: l[0], A: l[1], J: l[2]}
}

// placeIndex reads the name of a place of an earlier line and returns the index of the place.
func (r *reader) placeIndex() int {
	i, known := r.first[r.word()]
	demand(known)
	return i
}

// readFirstArm and readSecondArm read the lines of the arms.
func (r *reader) readFirstArm()  { r.readArm(0) }
func (r *reader) readSecondArm() { r.readArm(1) }

// readArm reads the line of arm k.
func (r *reader) readArm(k int) {
	r.Arms[k] = api.Arm{Base: r.point(), Lens: r.three(), Wide: r.number(), Low: r.three(), High: r.three()}
	r.Home[k] = r.three()
}

// readFixture reads the line of a fixture.
func (r *reader) readFixture() { r.Fixtures = append(r.Fixtures, r.corners()) }

// readPlace reads the line of a place.
func (r *reader) readPlace() {
	p := api.Place{Name: r.word(), At: r.point()}
	x, y := r.number(), r.number()
	p.Dir = api.Direction{X: x, Y: y, N: exponent}
	if _, known := r.first[p.Name]; !known {
		r.first[p.Name] = len(r.Places)
	}
	r.Places = append(r.Places, p)
}

// readPart reads the line of a part.
func (r *reader) readPart() {
	name, place := r.word(), r.placeIndex()
	r.Parts = append(r.Parts, api.Part{Name: name, Place: place, Shape: r.corners()})
}

// readBelt reads the line of the belt.
func (r *reader) readBelt() {
	r.Period = r.number()
	for len(r.words) > 0 {
		r.Belt = append(r.Belt, r.placeIndex())
	}
}

// readLimits reads the line of the limits of joints.
func (r *reader) readLimits() { r.Limits = r.limits() }

// readLoaded reads the line of the limits of joints of an arm that holds a part.
func (r *reader) readLoaded() { r.Loaded = r.limits() }

// readZone reads the line of a zone.
func (r *reader) readZone() { r.Zones = append(r.Zones, api.Zone{Area: r.corners()}) }

// readGuard reads the last line.
func (r *reader) readGuard() { r.Gap, r.Slow = r.number(), r.number() }

// refuse returns the results of Parse for a string that is not the description of a valid cell.
func refuse(err api.Errno, at int) (api.Cell, []api.Diagnostic) {
	return api.Cell{}, []api.Diagnostic{{Err: err, At: at}}
}

// Parse returns the cell described by a string.
func Parse(s string) (api.Cell, []api.Diagnostic) {
	r := newReader()
	rest := s
	for {
		line, after, ended := strings.Cut(rest, "\n")
		if !ended {
			break
		}
		if !r.accepts(line) {
			return refuse(api.ErrForm, len(s)-len(rest))
		}
		rest = after
	}
	if rest != "" || !r.isComplete() {
		return refuse(api.ErrEnd, len(s))
	}
	if !Valid(r.Cell) {
		return refuse(api.ErrCell, 0)
	}
	return r.Cell, nil
}
