package parser_test

import (
	"fmt"
	"math"
	"math/rand"
	"runtime/debug"
	"slices"
	"strings"
	"testing"

	"ambidexter/api"
	"ambidexter/parser"
)

// checkValid compares Valid with what is wanted, and with the oracle.
func checkValid(t *testing.T, what string, l []api.Stmt, want bool) {
	t.Helper()
	if got := parser.Valid(l); got != want || isValid(l) != want {
		t.Errorf("%s: Valid(%v) = %v, the oracle says %v, want %v", what, l, got, isValid(l), want)
	}
}

// examples are valid statements, one of each kind at its index, with all its fields other than zero.
func examples() []api.Stmt {
	return []api.Stmt{
		api.Go:   {Kind: api.Go, Arm: 1, To: [2]api.Joints{{}, {1, 2, 3}}},
		api.Home: {Kind: api.Home, Arm: 1},
		api.Pick: {Kind: api.Pick, Arm: 1, Part: "cup"},
		api.Put:  {Kind: api.Put, Arm: 1, Place: "belt"},
		api.Hand: {Kind: api.Hand, Arm: 1, Place: "belt"},
		api.Wait: {Kind: api.Wait, N: 5},
		api.When: {Kind: api.When, Place: "belt", Part: "cup", Kids: []api.Stmt{{Kind: api.Home}}},
		api.Both: {Kind: api.Both, To: [2]api.Joints{{1, 2, 3}, {4, 5, 6}}},
	}
}

// has tells whether statements of a kind have a field.
func has(kind int, field string) bool {
	return slices.Contains(strings.Fields(fieldsOf[kind]), field)
}

// placed are lists with a statement alone, behind and in front of others, and within Whens.
func placed(s api.Stmt) [][]api.Stmt {
	home := api.Stmt{Kind: api.Home}
	in := func(kids ...api.Stmt) api.Stmt {
		return api.Stmt{Kind: api.When, Place: "a", Part: "b", Kids: kids}
	}
	return [][]api.Stmt{{s}, {home, s}, {s, home}, {home, s, home}, {in(s)}, {in(home, s), home}, {home, in(in(s, home))}, {in(), in(in(in(s)))}}
}

// checkPlaced checks Valid for a statement in several lists.
func checkPlaced(t *testing.T, what string, s api.Stmt, want bool) {
	t.Helper()
	for _, l := range placed(s) {
		checkValid(t, what, l, want)
	}
}

// P11.1 (K3): valid statements of each kind, and kinds that are not in the table.
func TestValidKinds(t *testing.T) {
	checkValid(t, "nil", nil, true)
	checkValid(t, "an empty list", []api.Stmt{}, true)
	checkValid(t, "the zero statement", []api.Stmt{{}}, false)
	for kind, s := range examples() {
		checkPlaced(t, "an example", s, kind > 0)
	}
	checkValid(t, "all examples", examples()[1:], true)
	for _, kind := range []int{0, -1, 9, 10, 100, -8, math.MaxInt, math.MinInt, 1 << 32, 1<<32 + 1} {
		for _, s := range examples() {
			s.Kind = kind
			checkPlaced(t, "another kind", s, false)
		}
		checkPlaced(t, "another kind", api.Stmt{Kind: kind}, false)
	}
	for kind := api.Go; kind <= api.Both; kind++ {
		for _, s := range examples()[1:] {
			other := s.Kind
			s.Kind = kind
			// Put and Hand have the same fields, and those of Go may all be zero but Arm.
			same := kind == other || kind == api.Put && other == api.Hand || kind == api.Hand && other == api.Put || kind == api.Go && other == api.Home
			checkPlaced(t, "the fields of another kind", s, same)
		}
	}
	checkValid(t, "a When with empty Kids", []api.Stmt{{Kind: api.When, Place: "a", Part: "b", Kids: []api.Stmt{}}}, true)
	checkValid(t, "a Home with empty Kids", []api.Stmt{{Kind: api.Home, Kids: []api.Stmt{}}}, true)
}

// P11.1 (K3): arms.
func TestValidArms(t *testing.T) {
	for kind := api.Go; kind <= api.Both; kind++ {
		for _, arm := range []int{0, 1, 2, -1, 3, 10, 1 << 32, math.MaxInt, math.MinInt} {
			s := examples()[kind]
			s.Arm = arm
			if kind == api.Go && (arm == 0 || arm == 1) {
				s.To = [2]api.Joints{}
				s.To[arm] = api.Joints{1, 2, 3}
			}
			checkPlaced(t, "an arm", s, arm == 0 || arm == 1 && has(kind, "Arm"))
		}
	}
	for arm := range 2 {
		for other := range 2 {
			for i := range 3 {
				s := api.Stmt{Kind: api.Go, Arm: arm}
				s.To[other][i] = 7
				checkPlaced(t, "joint values of an arm", s, arm == other)
				s.To[1-other][i] = -7
				checkPlaced(t, "joint values of both arms", s, false)
			}
		}
	}
}

// P11.1 (K3): names as parts and as places, where they are required and where they are not permitted.
func TestValidNames(t *testing.T) {
	check := func(name string) {
		t.Helper()
		for kind := api.Go; kind <= api.Both; kind++ {
			s := examples()[kind]
			s.Part = name
			checkPlaced(t, fmt.Sprintf("part %q", name), s, has(kind, "Part") && isName(name) || !has(kind, "Part") && name == "")
			s = examples()[kind]
			s.Place = name
			checkPlaced(t, fmt.Sprintf("place %q", name), s, has(kind, "Place") && isName(name) || !has(kind, "Place") && name == "")
		}
	}
	for _, name := range append(names, "", " ", "_", "0", "1", "-1", "1a", "_a", "a b", " a", "a ", "\ta", "a\n", "a#", "a #", "a # b", "#\na", "# a", "a-1", "a;", ";", "(", "{", "a{",
		"a\x00", "\x00", "\xff", "a\xff", "ä", "aä", "abcdefghijklm", "abcdefghijkl ", strings.Repeat("x", 13), strings.Repeat("x", 100), strings.Repeat("x", 20000), strings.Repeat("x", 20001),
		strings.Repeat("#", 1000), "a"+strings.Repeat(" ", 19999), "go", "home", "pick", "put", "hand", "wait", "when", "both", "Go", "HOME", "go_", "whe", "whenn", "7x", "@", "[", "`", "a.b") {
		check(name)
	}
	for b := range 256 {
		check(string([]byte{byte(b)}))
		check(string([]byte{'a', byte(b)}))
		check(string([]byte{byte(b), 'a'}))
	}
}

// P11.1 (K3): numbers within and out of range, and where they must be zero.
func TestValidNumbers(t *testing.T) {
	for _, n := range []int{0, 1, -1, 18, -17, 19, 100, 999999999, -999999999, 1000000000, -1000000000, 1000000001, 1 << 31, 1 << 32, -1 << 32, 1 << 62, math.MaxInt, math.MinInt, math.MinInt + 1} {
		small := -1000000000 < n && n < 1000000000
		for kind := api.Go; kind <= api.Both; kind++ {
			s := examples()[kind]
			s.N = n
			checkPlaced(t, "a number", s, kind == api.Wait && small || n == 0)
			for arm := range 2 {
				for i := range 3 {
					s := examples()[kind]
					s.To[arm][i] = n
					permitted := kind == api.Both || kind == api.Go && arm == s.Arm
					checkPlaced(t, "a joint value", s, permitted && small || n == 0)
				}
			}
		}
	}
}

// P11.1 (K3): At may have any value.
func TestValidOffsets(t *testing.T) {
	for _, at := range []int{0, 1, -1, 20001, math.MaxInt, math.MinInt} {
		for _, s := range examples()[1:] {
			s.At = at
			checkPlaced(t, "an offset", s, true)
		}
	}
}

// P11.1 (K3): Kids of statements of each kind.
func TestValidKids(t *testing.T) {
	for kind := api.Go; kind <= api.Both; kind++ {
		for _, kid := range examples()[1:] {
			s := examples()[kind]
			s.Kids = []api.Stmt{kid}
			checkValid(t, "a Kid", []api.Stmt{s}, kind == api.When)
			s.Kids = []api.Stmt{{Kind: api.Home}, kid}
			checkValid(t, "two Kids", []api.Stmt{{Kind: api.Home}, s}, kind == api.When)
			kid.Kind = 0
			s.Kids = []api.Stmt{{Kind: api.Home}, kid}
			checkValid(t, "a Kid that is not valid", []api.Stmt{s}, false)
		}
		s := examples()[kind]
		s.Kids = []api.Stmt{{}}
		checkValid(t, "a zero Kid", []api.Stmt{s}, false)
	}
}

// homes are n statements.
func homes(n int) []api.Stmt { return slices.Repeat([]api.Stmt{{Kind: api.Home}}, n) }

// within are statements within depth Whens.
func within(depth int, l []api.Stmt) []api.Stmt {
	for range depth {
		l = []api.Stmt{{Kind: api.When, Place: "a", Part: "b", Kids: l}}
	}
	return l
}

// P11.1 (K3): 64 and 65 statements, nested ones included.
func TestValidNumbersOfStatements(t *testing.T) {
	for n := 60; n <= 70; n++ {
		checkValid(t, "statements", homes(n), n <= 64)
		checkValid(t, "Whens", slices.Repeat(within(1, nil), n), n <= 64)
		for depth := range 5 {
			for rest := range 5 {
				l := within(depth, homes(n-depth-rest))
				checkValid(t, "nested ones in front of others", append(slices.Clone(l), homes(rest)...), n <= 64)
				checkValid(t, "nested ones behind others", append(homes(rest), l...), n <= 64)
			}
		}
		checkValid(t, "two Whens", append(within(1, homes(30)), within(2, homes(n-33))...), n <= 64)
		wide := within(1, append(within(1, homes(30)), within(1, homes(n-33))...))
		checkValid(t, "two Whens in one", wide, n <= 64)
	}
	for _, n := range []int{100, 1000, 20000} {
		checkValid(t, "many statements", homes(n), false)
		checkValid(t, "many statements in a When", within(1, homes(n)), false)
	}
}

// P11.1 (K3): four and five levels.
func TestValidDepths(t *testing.T) {
	for depth := range 20 {
		checkValid(t, "empty Whens", within(depth, nil), depth <= 4)
		checkValid(t, "Whens", within(depth, homes(1)), depth <= 4)
		checkValid(t, "Whens with statements on the last level", within(depth, homes(3)), depth <= 4)
		checkValid(t, "Whens behind others", append(homes(2), within(depth, homes(3))...), depth <= 4)
		checkValid(t, "Whens behind others that are nested", append(within(4, nil), within(depth, homes(3))...), depth <= 4)
		checkValid(t, "Whens behind others on the first level", within(1, append(within(3, nil), within(depth, homes(3))...)), depth <= 3)
	}
}

// P11.1 (K3), P11.2: random statements with one or two fields changed.
func TestValidRandom(t *testing.T) {
	r := rand.New(rand.NewSource(113))
	valid := 0
	for range 5000 {
		l := drawStmts(r, 20, 0)
		checkValid(t, "random statements", l, true)
		for range 1 + r.Intn(2) {
			change(r, l)
		}
		checkValid(t, "changed statements", l, isValid(l))
		if isValid(l) {
			valid++
		}
	}
	if valid < 500 || valid > 4500 {
		t.Errorf("%d of 5000 changed lists are valid", valid)
	}
}

// change changes a random field of a random statement, or of one within it.
func change(r *rand.Rand, l []api.Stmt) {
	if len(l) == 0 {
		return
	}
	s := &l[r.Intn(len(l))]
	if len(s.Kids) > 0 && r.Intn(2) == 0 {
		change(r, s.Kids)
		return
	}
	switch r.Intn(8) {
	case 0:
		s.Kind = r.Intn(10)
	case 1:
		s.Arm = r.Intn(4) - 1
	case 2:
		s.Part = []string{"", "go", "cup2", "a b", "abcdefghijklm"}[r.Intn(5)]
	case 3:
		s.Place = []string{"", "both", "belt2", "7", "abcdefghijklm"}[r.Intn(5)]
	case 4:
		s.N = []int{0, 3, 1000000000, -1000000000}[r.Intn(4)]
	case 5:
		s.To[r.Intn(2)][r.Intn(3)] = []int{0, 3, 1000000000, -1000000000}[r.Intn(4)]
	case 6:
		s.Kids = append(s.Kids, drawStmt(r, 1+r.Intn(8)))
	case 7:
		s.At = r.Intn(100) - 50
	}
}

// checkEqual compares Equal, in both directions, with what is wanted, and with the oracle.
func checkEqual(t *testing.T, what string, a, b []api.Stmt, want bool) {
	t.Helper()
	if parser.Equal(a, b) != want || parser.Equal(b, a) != want || areEqual(a, b) != want {
		t.Errorf("%s: Equal(%v, %v) = %v and %v, the oracle says %v, want %v", what, a, b, parser.Equal(a, b), parser.Equal(b, a), areEqual(a, b), want)
	}
	if !parser.Equal(a, a) || !parser.Equal(b, exact(b)) {
		t.Errorf("%s: %v or %v is not equal to itself", what, a, b)
	}
}

// alterations are functions that change a statement in one field only.
var alterations = map[string]func(s *api.Stmt){
	"Kind":                func(s *api.Stmt) { s.Kind++ },
	"Arm":                 func(s *api.Stmt) { s.Arm++ },
	"a large Arm":         func(s *api.Stmt) { s.Arm += 1 << 32 },
	"Part":                func(s *api.Stmt) { s.Part += "x" },
	"Place":               func(s *api.Stmt) { s.Place += "x" },
	"a Part in capitals":  func(s *api.Stmt) { s.Part = strings.ToUpper(s.Part + "p") },
	"N":                   func(s *api.Stmt) { s.N = -s.N - 1 },
	"a large N":           func(s *api.Stmt) { s.N += math.MinInt },
	"To[0][0]":            func(s *api.Stmt) { s.To[0][0]++ },
	"To[0][1]":            func(s *api.Stmt) { s.To[0][1]++ },
	"To[0][2]":            func(s *api.Stmt) { s.To[0][2]-- },
	"To[1][0]":            func(s *api.Stmt) { s.To[1][0]++ },
	"To[1][1]":            func(s *api.Stmt) { s.To[1][1]-- },
	"To[1][2]":            func(s *api.Stmt) { s.To[1][2] += 1 << 40 },
	"a Kid more":          func(s *api.Stmt) { s.Kids = append(slices.Clone(s.Kids), api.Stmt{}) },
	"a Kid more in front": func(s *api.Stmt) { s.Kids = append([]api.Stmt{{Kind: api.Wait}}, s.Kids...) },
	"a Kid of a Kid":      func(s *api.Stmt) { s.Kids = append(slices.Clone(s.Kids), within(2, homes(1))...) },
}

// P11.1 (K3): statements that differ in one field only, in each place of a list, and in the Kids of Whens.
func TestEqualFields(t *testing.T) {
	for _, s := range append(examples(), api.Stmt{Kind: 77, Arm: -5, Part: "?", Place: "-", N: 9, To: [2]api.Joints{{1, 2, 3}, {4, 5, 6}}, Kids: examples(), At: 3}) {
		for what, alter := range alterations {
			other := s
			alter(&other)
			for i, l := range placed(s) {
				checkEqual(t, what, l, placed(other)[i], false)
				checkEqual(t, "no difference", l, placed(s)[i], true)
			}
		}
		for _, at := range []int{1, -1, 100, math.MaxInt, math.MinInt} {
			other := s
			other.At += at
			for i, l := range placed(s) {
				checkEqual(t, "At only", l, placed(other)[i], true)
			}
		}
	}
}

// P11.1 (K3), P3: lists of different lengths and orders, and empty ones.
func TestEqualLists(t *testing.T) {
	checkEqual(t, "nil", nil, nil, true)
	checkEqual(t, "nil and an empty list", nil, []api.Stmt{}, true)
	checkEqual(t, "nil and a zero statement", nil, []api.Stmt{{}}, false)
	checkEqual(t, "nil and empty Kids", []api.Stmt{{Kind: api.When}}, []api.Stmt{{Kind: api.When, Kids: []api.Stmt{}}}, true)
	for n := range 5 {
		for m := range 5 {
			checkEqual(t, "lengths", homes(n), homes(m), n == m)
			checkEqual(t, "numbers of Kids", within(1, homes(n)), within(1, homes(m)), n == m)
			checkEqual(t, "numbers of Kids and others", append(within(1, homes(n)), homes(m)...), append(within(1, homes(m)), homes(n)...), n == m)
			checkEqual(t, "depths", within(n, homes(1)), within(m, homes(1)), n == m)
			checkEqual(t, "positions of Kids", append(within(1, homes(n)), within(1, homes(m))...), append(within(1, homes(m)), within(1, homes(n))...), n == m)
		}
	}
	for i := range 9 {
		for k := range 9 {
			l := examples()
			l[i], l[k] = l[k], l[i]
			checkEqual(t, "order", examples(), l, i == k)
			checkEqual(t, "order of Kids", within(2, examples()), within(2, l), i == k)
			checkEqual(t, "a shorter list", examples()[:i], examples()[:k], i == k)
		}
	}
}

// P11.1 (K3): random statements with a random change.
func TestEqualRandom(t *testing.T) {
	r := rand.New(rand.NewSource(131))
	equal := 0
	for range 5000 {
		l := drawStmts(r, 20, 0)
		other := exact(l)
		change(r, other)
		checkEqual(t, "changed statements", l, other, areEqual(l, other))
		if areEqual(l, other) {
			equal++
		}
		few, others := drawStmts(r, 2, 3), drawStmts(r, 2, 3)
		checkEqual(t, "other statements", few, others, areEqual(few, others))
	}
	if equal < 500 || equal > 4500 {
		t.Errorf("%d of 5000 changed lists are equal", equal)
	}
}

// P1: Valid and Equal for lists that are very long, nested very deeply, and for Valid without end.
func TestLargeLists(t *testing.T) {
	const many = 200000
	// A function that calls itself for each level would need more.
	defer debug.SetMaxStack(debug.SetMaxStack(8 << 20))
	long := homes(many)
	if !parser.Equal(long, homes(many)) || parser.Equal(long, homes(many+1)) || parser.Valid(long) {
		t.Errorf("wrong answers for a long list")
	}
	deep, other := within(many, homes(1)), within(many, homes(2))
	if !parser.Equal(deep, within(many, homes(1))) || parser.Equal(deep, other) || parser.Valid(deep) {
		t.Errorf("wrong answers for a deep list")
	}
	endless := within(1, nil)
	endless[0].Kids = endless
	if parser.Valid(endless) {
		t.Errorf("a When within itself is valid")
	}
}

// P3: Valid and Equal do not modify their arguments.
func TestArgumentsUnmodified(t *testing.T) {
	r := rand.New(rand.NewSource(31))
	for range 500 {
		a, b := drawStmts(r, 30, 0), drawStmts(r, 30, 0)
		if r.Intn(2) == 0 {
			b = exact(a)
		}
		change(r, b)
		c, d := exact(a), exact(b)
		parser.Valid(a)
		parser.Valid(b)
		parser.Equal(a, b)
		parser.Format(a)
		if !areSame(a, c) || !areSame(b, d) {
			t.Errorf("%v or %v has been modified", c, d)
		}
	}
}
