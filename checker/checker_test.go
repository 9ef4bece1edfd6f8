package checker_test

import (
	"fmt"
	"math"
	"math/rand"
	"reflect"
	"slices"
	"strings"
	"sync"
	"testing"

	"ambidexter/api"
	"ambidexter/cell"
	"ambidexter/checker"
	"ambidexter/invkin"
	"ambidexter/parser"
)

// checkJob compares Check with want.
func checkJob(t *testing.T, what string, c api.Cell, l []api.Stmt, want ...api.Diagnostic) {
	t.Helper()
	if !cell.Valid(c) || !parser.Valid(l) {
		t.Fatalf("%s: nothing is specified for %v and %v", what, c, l)
	}
	if got := checker.Check(c, l); !slices.Equal(got, want) {
		t.Errorf("%s: Check of\n%s= %v, want %v", what, parser.Format(l), got, want)
	}
}

// checkText compares Check of the statements of a text with want.
func checkText(t *testing.T, c api.Cell, text string, want ...api.Diagnostic) {
	t.Helper()
	checkJob(t, text, c, statements(t, text), want...)
}

// P12.1 (L1): no statements, in a list that is nil and in one that is empty.
func TestNoStatements(t *testing.T) {
	c := described(t, bench)
	checkJob(t, "nil", c, nil)
	checkJob(t, "an empty list", c, []api.Stmt{})
	checkJob(t, "nil in a bare cell", bare(c), nil)
	checkText(t, c, "# nothing")
}

// P12.1 (L1): one statement of each kind for each arm, accepted and with each of its diagnostics.
func TestOneStatement(t *testing.T) {
	c := limited(described(t, bench), 1, api.Joints{-3, -9, 0}, api.Joints{18, 4, 5})
	for _, x := range []struct {
		text string
		want []api.Diagnostic
	}{
		{"home 0;", nil},
		{"home 1;", nil},
		{"go 0 (-17, 18, 0);", nil},
		{"go 0 (19, 0, 0);", []api.Diagnostic{outside(0)}},
		{"go 0 (0, 0, -18);", []api.Diagnostic{outside(0)}},
		{"go 1 (18, -9, 5);", nil},
		{"go 1 (18, -9, 6);", []api.Diagnostic{outside(0)}},
		{"go 1 (-4, 0, 0);", []api.Diagnostic{outside(0)}},
		{"go 1 (999999999, -999999999, 999999999);", []api.Diagnostic{outside(0)}},
		{"pick 0 nut;", nil},
		{"pick 0 bolt;", []api.Diagnostic{name(0)}},
		{"pick 1 nut;", nil},
		{"pick 1 bolt;", []api.Diagnostic{name(0)}},
		{"put 0 left;", nil},
		{"put 0 bolt;", []api.Diagnostic{name(0)}},
		{"put 0 right;", []api.Diagnostic{unreachable(0)}},
		{"put 1 middle;", nil},
		{"put 1 bolt;", []api.Diagnostic{name(0)}},
		{"put 1 left;", []api.Diagnostic{unreachable(0)}},
		{"hand 0 middle;", nil},
		{"hand 0 bolt;", []api.Diagnostic{name(0)}},
		{"hand 0 left;", []api.Diagnostic{unreachable(0)}},
		{"hand 1 middle;", nil},
		{"hand 1 bolt;", []api.Diagnostic{name(0)}},
		{"hand 1 left;", []api.Diagnostic{unreachable(0)}},
		{"wait 1;", nil},
		{"wait 0;", []api.Diagnostic{outside(0)}},
		{"wait 2001;", []api.Diagnostic{outside(0)}},
		{"when far nut { }", nil},
		{"when bolt nut { }", []api.Diagnostic{name(0)}},
		{"when far bolt { }", []api.Diagnostic{name(0)}},
		{"when bolt bolt { }", []api.Diagnostic{name(0)}},
		{"both (0, 9, 1) (18, -9, 0);", nil},
		{"both (0, 9, 0) (18, -9, 0);", []api.Diagnostic{duplicate(0)}},
		{"both (0, 19, 0) (18, -9, 0);", []api.Diagnostic{outside(0)}},
		{"both (0, 9, 0) (18, -10, 0);", []api.Diagnostic{outside(0)}},
		{"both (0, 9, 0) (18, 0, -1);", []api.Diagnostic{outside(0)}},
	} {
		checkText(t, c, x.text, x.want...)
	}
}

// limits are limits of both arms that the joint values 0 are beyond, and that no joint value of the other arm is within.
var limits = [2][2]api.Joints{{{2, -9, 11}, {5, -2, 12}}, {{-11, 4, -12}, {-4, 9, -1}}}

// narrow is a cell with these limits.
func narrow(t *testing.T) api.Cell {
	c := described(t, bench)
	return limited(limited(c, 0, limits[0][0], limits[0][1]), 1, limits[1][0], limits[1][1])
}

// P12.1 (L1): Go with each joint at its limits and beyond them; the other arm, whose limits its To is never within, does not matter.
func TestGoAtTheLimits(t *testing.T) {
	c := narrow(t)
	for k := range 2 {
		low, high := limits[k][0], limits[k][1]
		for joint := range 3 {
			for _, x := range []struct {
				value int
				want  []api.Diagnostic
			}{
				{low[joint], nil},
				{high[joint], nil},
				{low[joint] - 1, []api.Diagnostic{outside(7)}},
				{high[joint] + 1, []api.Diagnostic{outside(7)}},
				{low[joint] - 36, []api.Diagnostic{outside(7)}},
				{high[joint] + 36, []api.Diagnostic{outside(7)}},
				{-999999999, []api.Diagnostic{outside(7)}},
				{999999999, []api.Diagnostic{outside(7)}},
			} {
				for _, others := range []api.Joints{low, high} {
					s := api.Stmt{Kind: api.Go, Arm: k, At: 7}
					s.To[k] = others
					s.To[k][joint] = x.value
					checkJob(t, "one joint", c, []api.Stmt{s}, x.want...)
				}
			}
		}
		s := api.Stmt{Kind: api.Go, Arm: k, At: 7}
		checkJob(t, "the joint values 0", c, []api.Stmt{s}, outside(7))
		s.To[k] = limits[1-k][0]
		checkJob(t, "joint values of the other arm", c, []api.Stmt{s}, outside(7))
	}
}

// P12.1 (L1): Go to all joint values in and around the range, for arms with limits of all kinds.
func TestGoEverywhere(t *testing.T) {
	for _, c := range stations(t) {
		for n := range 38 * 38 * 38 {
			q := api.Joints{n/38/38 - 18, n/38%38 - 18, n%38 - 18}
			for k, a := range c.Arms {
				s := api.Stmt{Kind: api.Go, Arm: k, At: n}
				s.To[k] = q
				got := checker.Check(c, []api.Stmt{s})
				if allows(a, q) && len(got) > 0 || !allows(a, q) && !slices.Equal(got, []api.Diagnostic{outside(n)}) {
					t.Fatalf("Go of an arm with the limits %v and %v to %v: %v", a.Low, a.High, q, got)
				}
			}
		}
	}
}

// P12.1 (L1): names of parts where places are meant, names of places where parts are, and names that differ in little.
func TestNames(t *testing.T) {
	c := described(t, bench)
	for _, x := range []struct {
		text  string
		right bool
	}{
		{"pick 0 left;", true},    // a part and a place
		{"pick 0 middle;", false}, // a place
		{"pick 1 far;", false},
		{"put 0 left;", true},
		{"put 0 nut;", false}, // a part
		{"hand 1 nut;", false},
		{"when left left { }", true},
		{"when middle left { }", true},
		{"when left nut { }", true},
		{"when nut left { }", false},
		{"when nut middle { }", false},
		{"when nut nut { }", false},
		{"when middle right { }", false},
		{"when middle middle { }", false},
		{"pick 0 Nut;", false},
		{"pick 0 nu;", false},
		{"pick 0 nutt;", false},
		{"pick 0 n;", false},
		{"put 0 LEFT;", false},
		{"put 0 lef;", false},
		{"put 0 left_;", false},
		{"hand 0 middl;", false},
		{"hand 0 Middle;", false},
		{"when Left left { }", false},
		{"when left Left { }", false},
	} {
		var want []api.Diagnostic
		if !x.right {
			want = append(want, name(0))
		}
		checkText(t, c, x.text, want...)
	}
}

// P12.1 (L1): each name of a cell with as many places and parts as there may be, none of which has the name of another kind.
func TestNamesOfLargestCell(t *testing.T) {
	c := bare(described(t, bench))
	x := poseOf(c.Arms[0], api.Joints{0, 9, 0})
	for i := range 16 {
		c.Places = append(c.Places, api.Place{Name: fmt.Sprint("place", i), At: x.at, Dir: x.d})
	}
	for i := range 8 {
		c.Parts = append(c.Parts, drawPart(fmt.Sprint("part", i), 15-i))
	}
	for i := range 18 {
		var noPlace, noPart []api.Diagnostic
		if i > 15 {
			noPlace = []api.Diagnostic{name(0)}
		}
		if i > 7 {
			noPart = []api.Diagnostic{name(0)}
		}
		checkText(t, c, fmt.Sprintf("put 1 place%d;", i), noPlace...)
		checkText(t, c, fmt.Sprintf("hand 0 place%d;", i), noPlace...)
		checkText(t, c, fmt.Sprintf("when place%d part0 { }", i), noPlace...)
		checkText(t, c, fmt.Sprintf("pick 0 part%d;", i), noPart...)
		checkText(t, c, fmt.Sprintf("when place0 part%d { }", i), noPart...)
	}
}

// checkReach checks Put and Hand for a place of c that the given arms reach.
func checkReach(t *testing.T, c api.Cell, place string, reached [2]bool) {
	t.Helper()
	for k := range 2 {
		var put, hand []api.Diagnostic
		if !reached[k] {
			put = append(put, unreachable(3))
		}
		if !reached[0] || !reached[1] {
			hand = append(hand, unreachable(4))
		}
		checkJob(t, "reach", c, []api.Stmt{{Kind: api.Put, Arm: k, Place: place, At: 3}}, put...)
		checkJob(t, "reach", c, []api.Stmt{{Kind: api.Hand, Arm: k, Place: place, At: 4}}, hand...)
	}
}

// P12.1 (L1): Put and Hand at places that both arms reach, that one of them reaches and that none reaches, by their positions and by their directions.
func TestReachExamples(t *testing.T) {
	c := described(t, bench)
	for place, reached := range map[string][2]bool{
		"middle": {true, true},
		"left":   {true, false},
		"right":  {false, true},
		"west":   {true, false},
		"east":   {false, true},
		"under":  {false, false},
		"far":    {false, false},
	} {
		checkReach(t, c, place, reached)
		exchanged := c
		exchanged.Arms[0], exchanged.Arms[1] = c.Arms[1], c.Arms[0]
		checkReach(t, exchanged, place, [2]bool{reached[1], reached[0]})
	}
	moved := described(t, strings.Replace(bench, "place middle 0 43940000", "place middle 16 43940000", 1))
	checkReach(t, moved, "middle", [2]bool{false, false})
}

// P12.1 (L1): places that an arm reaches with two configurations, each of which is barred by each limit of each joint, by itself and together.
func TestReachWithinLimits(t *testing.T) {
	full := described(t, bench)
	for _, place := range full.Places[:5] {
		for k, a := range full.Arms {
			l := invkin.Solve(a, place.At, place.Dir)
			if len(l) != 2 && len(l) != 0 {
				t.Fatalf("%s: %v", place.Name, l)
			}
			for n := range 1 << 6 {
				c := limited(full, k, a.Low, a.High)
				for joint := range 3 {
					if len(l) > 0 {
						// The lower one, or the higher one, of the two values may be beyond a limit.
						first, second := min(l[0][joint], l[1][joint]), max(l[0][joint], l[1][joint])
						c.Arms[k].Low[joint] = min(first+n>>joint&1, second)
						c.Arms[k].High[joint] = max(second-n>>(joint+3)&1, c.Arms[k].Low[joint])
					}
				}
				c.Home[k] = c.Arms[k].Low
				var reached [2]bool
				for i := range reached {
					reached[i] = posesOf(c.Arms[i])[pose{place.At, place.Dir}]
				}
				checkReach(t, c, place.Name, reached)
			}
		}
	}
}

// P12.1 (L1): an arm that reaches a place with one of two configurations, with the other, and with none.
func TestReachWithinLimitsExamples(t *testing.T) {
	full := described(t, bench)
	for _, x := range []struct {
		low, high api.Joints
		reached   bool
	}{
		{api.Joints{-17, -17, -17}, api.Joints{18, 18, 18}, true},
		{api.Joints{18, -9, 0}, api.Joints{18, -9, 0}, true},
		{api.Joints{13, 9, -13}, api.Joints{13, 9, -13}, true},
		{api.Joints{-17, -17, -17}, api.Joints{17, 18, 18}, true},
		{api.Joints{14, -17, -17}, api.Joints{18, 18, 18}, true},
		{api.Joints{-17, -9, -17}, api.Joints{18, 8, 18}, true},
		{api.Joints{-17, -8, -17}, api.Joints{18, 9, 18}, true},
		{api.Joints{-17, -17, -12}, api.Joints{18, 18, 18}, true},
		{api.Joints{-17, -17, -13}, api.Joints{18, 18, -1}, true},
		{api.Joints{14, -17, -17}, api.Joints{17, 18, 18}, false},
		{api.Joints{-17, -17, -17}, api.Joints{12, 18, 18}, false},
		{api.Joints{-17, -8, -17}, api.Joints{18, 8, 18}, false},
		{api.Joints{-17, -17, -12}, api.Joints{18, 18, -1}, false},
		{api.Joints{-17, -17, 1}, api.Joints{18, 18, 18}, false},
		{api.Joints{14, -8, -17}, api.Joints{18, 18, 18}, false},
		{api.Joints{18, 9, -13}, api.Joints{18, 9, -13}, false},
	} {
		checkReach(t, limited(full, 0, x.low, x.high), "left", [2]bool{x.reached, false})
		checkReach(t, limited(full, 0, x.low, x.high), "right", [2]bool{false, true})
	}
}

// P12.1 (L1): a place for each configuration of an arm, against the poses of all configurations.
func TestReachEverywhere(t *testing.T) {
	r := rand.New(rand.NewSource(1))
	count := map[[2]bool]int{}
	for _, c := range stations(t) {
		for range 150 {
			c.Places = []api.Place{drawPlace(r, c, "here")}
			x := pose{c.Places[0].At, c.Places[0].Dir}
			reached := [2]bool{posesOf(c.Arms[0])[x], posesOf(c.Arms[1])[x]}
			checkReach(t, c, "here", reached)
			count[reached]++
		}
	}
	for _, reached := range [][2]bool{{false, false}, {false, true}, {true, false}, {true, true}} {
		if count[reached] < 100 {
			t.Errorf("%d places are reached by %v", count[reached], reached)
		}
	}
}

// P12.1 (L1): all numbers of ticks in and around the range, and the largest and the smallest ones.
func TestWait(t *testing.T) {
	c := described(t, bench)
	far := []int{-999999999, 999999999, -2000, 1 << 16, 1<<16 + 1}
	for n := -3; n <= 2003; n++ {
		far = append(far, n)
	}
	for _, n := range far {
		var want []api.Diagnostic
		if n < 1 || n > 2000 {
			want = append(want, outside(11))
		}
		checkJob(t, "wait", c, []api.Stmt{{Kind: api.Wait, N: n, At: 11}}, want...)
	}
}

// both is a Both at offset 5.
func both(q0, q1 api.Joints) []api.Stmt {
	return []api.Stmt{{Kind: api.Both, To: [2]api.Joints{q0, q1}, At: 5}}
}

// P12.1 (L1): Both with each joint of each arm at its limits and beyond them.
func TestBothAtTheLimits(t *testing.T) {
	c := narrow(t)
	count := 0
	for n := range 1 << 12 {
		var to [2]api.Joints
		beyond := false
		for i := range 6 {
			k, joint := i/3, i%3
			to[k][joint] = []int{limits[k][0][joint], limits[k][0][joint] - 1, limits[k][1][joint], limits[k][1][joint] + 1}[n>>(2*i)&3]
			beyond = beyond || n>>(2*i)&1 == 1
		}
		var want []api.Diagnostic
		if beyond {
			want = append(want, outside(5))
		} else {
			count++
		}
		checkJob(t, "limits", c, both(to[0], to[1]), want...)
	}
	checkJob(t, "the joint values 0", c, both(api.Joints{}, api.Joints{}), outside(5))
	checkJob(t, "exchanged joint values", c, both(limits[1][0], limits[0][0]), outside(5))
	if count != 64 {
		t.Errorf("%d accepted", count)
	}
}

// P12.1 (L1): the last points are equal or nearly equal, in equal and in different directions; other points, and the joint values, do not matter.
func TestBothAtOnePoint(t *testing.T) {
	c := described(t, bench)
	together := standing(c, 3, -2, 3, -2)
	shifted := c
	shifted.Arms[1].Base.X += 16
	for _, x := range []struct {
		what   string
		c      api.Cell
		q0, q1 api.Joints
		meets  bool
	}{
		{"one pose", c, api.Joints{0, 9, 0}, api.Joints{18, -9, 0}, true},
		{"right and upwards", c, api.Joints{9, -9, 0}, api.Joints{18, -9, 0}, true},
		{"right and left", c, api.Joints{9, -9, 0}, api.Joints{9, 9, 0}, true},
		{"exchanged", c, api.Joints{18, -9, 0}, api.Joints{0, 9, 0}, false},
		{"16 steps apart", shifted, api.Joints{0, 9, 0}, api.Joints{18, -9, 0}, false},
		{"below each other", c, api.Joints{0, 9, 0}, api.Joints{18, 0, -9}, false},
		{"beside each other", c, api.Joints{0, 9, 0}, api.Joints{9, -9, 0}, false},
		{"the tip of one at the wrist of the other", c, api.Joints{0, 0, 18}, api.Joints{18, 0, 0}, false},
		{"the middle joints at one point", c, api.Joints{0, 9, 9}, api.Joints{18, -9, 0}, false},
		{"stretched towards each other", c, api.Joints{0, 0, 0}, api.Joints{18, 0, 0}, false},
		{"the links cross", c, api.Joints{0, 0, 0}, api.Joints{13, 0, 0}, false},
		{"equal joint values", c, api.Joints{4, 4, 4}, api.Joints{4, 4, 4}, false},
		{"equal joint values at one base", together, api.Joints{4, 4, 4}, api.Joints{4, 4, 4}, true},
		{"another last joint at one base", together, api.Joints{4, 4, 4}, api.Joints{4, 4, 5}, false},
		{"another first joint at one base", together, api.Joints{4, 4, 4}, api.Joints{5, 4, 4}, false},
		{"both configurations of one pose at one base", together, api.Joints{18, -9, 0}, api.Joints{13, 9, -13}, true},
		{"both at the base", together, api.Joints{3, 18, 0}, api.Joints{-8, 18, 0}, true},
	} {
		var want []api.Diagnostic
		if x.meets {
			want = append(want, duplicate(5))
		}
		checkJob(t, x.what, x.c, both(x.q0, x.q1), want...)
	}
}

// P12.1 (L1), P2: of a Both with an arm beyond its limits and equal last points, only the limits are reported.
func TestBothAtOnePointBeyondLimits(t *testing.T) {
	full := described(t, bench)
	q := [2]api.Joints{{0, 9, 0}, {18, -9, 0}}
	checkJob(t, "within the limits", full, both(q[0], q[1]), duplicate(5))
	for k := range 2 {
		for joint := range 3 {
			at := full.Arms[k]
			at.Low[joint], at.High[joint] = q[k][joint], q[k][joint]
			checkJob(t, "at a limit", limited(full, k, at.Low, at.High), both(q[0], q[1]), duplicate(5))
			if q[k][joint] < 18 {
				above := full.Arms[k]
				above.Low[joint] = q[k][joint] + 1
				checkJob(t, "below a limit", limited(full, k, above.Low, above.High), both(q[0], q[1]), outside(5))
			}
			below := full.Arms[k]
			below.High[joint] = q[k][joint] - 1
			checkJob(t, "above a limit", limited(full, k, below.Low, below.High), both(q[0], q[1]), outside(5))
		}
	}
	together := standing(full, 0, 0, 0, 0)
	checkJob(t, "at one base", together, both(api.Joints{0, 0, 0}, api.Joints{0, 0, 0}), duplicate(5))
	checkJob(t, "both beyond, at one base", together, both(api.Joints{19, 0, 0}, api.Joints{19, 0, 0}), outside(5))
	checkJob(t, "a turn further", together, both(api.Joints{36, 0, 0}, api.Joints{0, 0, 0}), outside(5))
	checkJob(t, "a turn further for the other arm", together, both(api.Joints{0, 0, 0}, api.Joints{0, -36, 0}), outside(5))
}

// job is a text with statements of all kinds, nested in Whens with names that exist and in others; each statement with an error is followed by a comment with its error.
const job = `home 0;
wait 0; # range
pick 0 nut;
when middle nut {
  put 1 left; # unreachable
  when bolt nut { # name
    pick 1 bolt; # name
    go 0 (0, 0, 0);
    when middle bolt { # name
      both (0, 9, 0) (18, -9, 0); # duplicate
      when bolt bolt { # name
        hand 0 left; # unreachable
        hand 1 middle;
        put 0 bolt; # name
      }
      wait 2001; # range
    }
    go 1 (0, 0, 19); # range
  }
  home 1;
  hand 1 bolt; # name
}
both (0, 9, 0) (18, -9, 19); # range
when nut middle { # name
}
when far left { pick 0 left; } put 0 far; # unreachable
wait 7;
`

// P12.1 (L1), P12.2: a job with errors in statements of all depths: they are reported in the order of the statements, with the offsets of these.
func TestNestedStatements(t *testing.T) {
	numbers := map[string]api.Errno{"name": api.ErrName, "range": api.ErrRange, "duplicate": api.ErrDuplicate, "unreachable": api.ErrUnreachable}
	var want []api.Diagnostic
	at := 0
	for line := range strings.Lines(job) {
		before, comment, found := strings.Cut(strings.TrimSpace(line), " # ")
		if found {
			want = append(want, api.Diagnostic{Err: numbers[comment], At: at + strings.Index(line, before)})
		}
		at += len(line)
	}
	// The last diagnostic is the one of the line's second statement.
	want[len(want)-1].At = strings.Index(job, "put 0 far")
	if len(want) != 15 {
		t.Fatal(want)
	}
	checkText(t, described(t, bench), job, want...)
}

// P12.1 (L1), P12.2: offsets are those of the statements, whatever they are.
func TestOffsets(t *testing.T) {
	c := described(t, bench)
	for _, at := range []int{0, 1, -1, 77, 20000, math.MaxInt, math.MinInt} {
		for _, l := range [][]api.Stmt{
			{{Kind: api.Wait, At: at}},
			{{Kind: api.Go, Arm: 1, To: [2]api.Joints{{}, {19, 0, 0}}, At: at}},
			both(api.Joints{19, 0, 0}, api.Joints{}),
		} {
			l[0].At = at
			checkJob(t, "an offset", c, l, outside(at))
		}
		checkJob(t, "an offset", c, []api.Stmt{{Kind: api.Pick, Part: "bolt", At: at}}, name(at))
		checkJob(t, "an offset", c, []api.Stmt{{Kind: api.Put, Place: "bolt", At: at}}, name(at))
		checkJob(t, "an offset", c, []api.Stmt{{Kind: api.Put, Place: "far", At: at}}, unreachable(at))
		checkJob(t, "an offset", c, []api.Stmt{{Kind: api.Hand, Place: "far", At: at}}, unreachable(at))
		checkJob(t, "an offset", c, []api.Stmt{{Kind: api.When, Place: "bolt", Part: "nut", At: at, Kids: []api.Stmt{{Kind: api.Wait, At: -at}}}}, name(at), outside(-at))
	}
	descending := []api.Stmt{{Kind: api.Wait, At: 9}, {Kind: api.Pick, Part: "bolt", At: 5}, {Kind: api.Wait, At: 5}, {Kind: api.Wait, At: 3}, {Kind: api.Wait, At: 9}}
	checkJob(t, "offsets that decrease and are equal", c, descending, outside(9), name(5), outside(5), outside(3), outside(9))
}

// P12.1 (L1), P12.2: as many statements as there may be, in one list and as deeply nested as they may be, all with a diagnostic.
func TestLargestJobs(t *testing.T) {
	c := described(t, bench)
	var flat []api.Stmt
	var want []api.Diagnostic
	for i := range 64 {
		flat = append(flat, api.Stmt{Kind: api.Wait, At: 8 * i})
		want = append(want, outside(8*i))
	}
	checkJob(t, "64 statements", c, flat, want...)
	deep := flat[4:]
	for i := 3; i >= 0; i-- {
		deep = []api.Stmt{{Kind: api.When, Place: "bolt", Part: "bolt", Kids: deep, At: i}}
		want[i] = name(i)
	}
	checkJob(t, "64 statements in four Whens", c, deep, want...)
	checkText(t, c, strings.Repeat("when a b { ", 4)+strings.Repeat("} ", 4), name(0), name(11), name(22), name(33))
}

// P12.1 (L1): cells without parts and without places.
func TestCellsWithoutPartsOrPlaces(t *testing.T) {
	c := described(t, bench)
	text := "pick 0 nut; when far nut { put 0 left; } hand 1 middle; home 0; wait 1; go 0 (0, 0, 0); both (0, 0, 0) (0, 0, 0);"
	checkText(t, c, text)
	noParts := c
	noParts.Parts = nil
	checkText(t, noParts, text, name(0), name(12))
	checkText(t, bare(c), text, name(0), name(12), name(27), name(41))
	checkText(t, bare(c), "both (0, 9, 0) (18, -9, 0); wait 0; go 1 (0, 0, 19);", duplicate(0), outside(28), outside(36))
}

// P12.1 (L1): neither homes, bodies, fixtures, belt, limits nor zones matter, nor where the parts are.
func TestOtherFieldsOfCells(t *testing.T) {
	c := described(t, bench)
	l := statements(t, job)
	want := checker.Check(c, l)
	area := api.Polygon{{X: -85 * unit, Y: -85 * unit}, {X: 85 * unit, Y: -85 * unit}, {X: 85 * unit, Y: 85 * unit}, {X: -85 * unit, Y: 85 * unit}}
	c.Fixtures, c.Zones = []api.Polygon{area}, []api.Zone{{Area: area}}
	c.Home = [2]api.Joints{{0, 9, 0}, {18, -9, 0}}
	c.Arms[0].Wide, c.Arms[1].Wide = 4, 3
	c.Belt, c.Period, c.Gap, c.Slow = []int{1, 0}, 7, 20, 1
	c.Limits, c.Loaded = api.Limits{V: 1, A: 1, J: 1}, api.Limits{V: 1, A: 1, J: 1}
	c.Parts = []api.Part{drawPart("left", 2), drawPart("nut", 5)}
	checkJob(t, "other fields", c, l, want...)
}

// P12.1 (L1): random jobs for random cells; all kinds have diagnostics of all their kinds.
func TestRandomJobs(t *testing.T) {
	r := rand.New(rand.NewSource(12))
	stations := stations(t)
	count := map[string]int{}
	for range 3000 {
		c := drawCell(r, stations)
		l := drawJob(r, c, drawIn(r, 0, 64))
		checkJob(t, "a random job", c, l, answerTo(c, l)...)
		for _, s := range listed(l) {
			errors := errorsOf(c, s)
			count[fmt.Sprint(s.Kind, s.Arm, errors)]++
		}
	}
	for _, what := range []string{
		"1 0 []", "1 1 []", "1 0 [error 121]", "1 1 [error 121]", "2 0 []", "2 1 []", "3 0 []", "3 1 []", "3 0 [error 120]", "3 1 [error 120]",
		"4 0 []", "4 1 []", "4 0 [error 120 error 134]", "4 1 [error 120 error 134]", "4 0 [error 134]", "4 1 [error 134]",
		"5 0 []", "5 1 []", "5 0 [error 120 error 134]", "5 1 [error 120 error 134]", "5 0 [error 134]", "5 1 [error 134]",
		"6 0 []", "6 0 [error 121]", "7 0 []", "7 0 [error 120]", "8 0 []", "8 0 [error 121]", "8 0 [error 122]", "8 0 [error 121 error 122]",
	} {
		if n := count[strings.ReplaceAll(what, "error", "ambidexter: error")]; n < 50 {
			t.Errorf("%d statements of the kind %s", n, what)
		}
	}
}

// P12.2: each diagnostic belongs to a statement of its own, in the order of the statements.
func TestOneDiagnosticPerStatement(t *testing.T) {
	r := rand.New(rand.NewSource(122))
	stations := stations(t)
	for range 500 {
		c := drawCell(r, stations)
		l := drawJob(r, c, 64)
		left := listed(l)
		for _, d := range checker.Check(c, l) {
			i := slices.IndexFunc(left, func(s api.Stmt) bool { return s.At == d.At })
			if i < 0 {
				t.Fatalf("Check of\n%s= %v", parser.Format(l), checker.Check(c, l))
			}
			if left[i].Kind == api.Home || d.Err == api.OK {
				t.Errorf("%v for a statement of kind %d", d, left[i].Kind)
			}
			left = left[i+1:]
		}
	}
}

// P12.3: the diagnostics of a list are those of its beginning and those of the rest, wherever it is divided.
func TestConcatenation(t *testing.T) {
	r := rand.New(rand.NewSource(123))
	stations := stations(t)
	parts := 0
	for range 300 {
		c := drawCell(r, stations)
		first, second := drawJob(r, c, 32), drawJob(r, c, 32)
		whole := slices.Concat(first, second)
		checkJob(t, "two lists", c, whole, slices.Concat(checker.Check(c, first), checker.Check(c, second))...)
		var alone []api.Diagnostic
		for i, s := range whole {
			d := checker.Check(c, whole[i:i+1])
			alone = append(alone, d...)
			if s.Kind != api.When && len(d) > 1 {
				t.Errorf("%v for %v", d, s)
			}
			parts += min(len(d), 1)
		}
		checkJob(t, "each statement by itself", c, whole, alone...)
		checkJob(t, "twice", c, slices.Concat(first, first), slices.Concat(checker.Check(c, first), checker.Check(c, first))...)
	}
	if parts < 1000 {
		t.Errorf("%d statements with a diagnostic", parts)
	}
}

// P12.3: the Kids of a When have the same diagnostics as on their own, whether its names exist or not.
func TestKids(t *testing.T) {
	r := rand.New(rand.NewSource(124))
	stations := stations(t)
	right, wrong := 0, 0
	for range 500 {
		c := drawCell(r, stations)
		for _, s := range listed(drawJob(r, c, 64)) {
			if s.Kind != api.When {
				continue
			}
			kids := checker.Check(c, s.Kids)
			s.At = 1000
			if len(errorsOf(c, s)) > 0 {
				checkJob(t, "a When with an unknown name", c, []api.Stmt{s}, slices.Concat([]api.Diagnostic{name(1000)}, kids)...)
				wrong += len(kids)
			} else {
				checkJob(t, "a When", c, []api.Stmt{s}, kids...)
				right += len(kids)
			}
		}
	}
	if right < 1000 || wrong < 1000 {
		t.Errorf("%d and %d diagnostics of Kids", right, wrong)
	}
}

// drawAddition returns the name of no part of c, one that a statement of l means if there is such, and a place without a part, or -1 if nothing can be added.
func drawAddition(r *rand.Rand, c api.Cell, l []api.Stmt) (string, int) {
	var free []int
	for i := range c.Places {
		if !slices.ContainsFunc(c.Parts, func(p api.Part) bool { return p.Place == i }) {
			free = append(free, i)
		}
	}
	missing := []string{"new"}
	for _, s := range listed(l) {
		if s.Part != "" && !slices.ContainsFunc(c.Parts, func(p api.Part) bool { return p.Name == s.Part }) {
			missing = append(missing, s.Part)
		}
	}
	if len(c.Parts) == 8 || len(free) == 0 {
		return "", -1
	}
	return missing[r.Intn(len(missing))], free[r.Intn(len(free))]
}

// P12.4: one part more, at any index of the list, takes away ErrName of statements that name it, and nothing else changes.
func TestOnePartMore(t *testing.T) {
	r := rand.New(rand.NewSource(125))
	stations := stations(t)
	gone, stayed := 0, 0
	for range 1500 {
		c := drawCell(r, stations)
		l := drawJob(r, c, 64)
		added, place := drawAddition(r, c, l)
		if place < 0 {
			continue
		}
		more := c
		more.Parts = slices.Insert(slices.Clone(c.Parts), r.Intn(len(c.Parts)+1), drawPart(added, place))
		var want []api.Diagnostic
		statements := listed(l)
		for _, d := range checker.Check(c, l) {
			s := statements[slices.IndexFunc(statements, func(s api.Stmt) bool { return s.At == d.At })]
			named := s.Part == added && d.Err == api.ErrName
			hasPlace := slices.ContainsFunc(c.Places, func(p api.Place) bool { return p.Name == s.Place })
			if named && (s.Kind == api.Pick || hasPlace) {
				gone++
				continue
			}
			if named {
				stayed++
			}
			want = append(want, d)
		}
		checkJob(t, "one part more", more, l, want...)
	}
	if gone < 300 || stayed < 50 {
		t.Errorf("%d diagnostics disappeared, and %d of statements that name the part did not", gone, stayed)
	}
}

// P12.4: examples with one part more.
func TestOnePartMoreExamples(t *testing.T) {
	c := described(t, bench)
	more := c
	more.Parts = append(slices.Clone(c.Parts), drawPart("bolt", 3))
	l := statements(t, "pick 0 bolt; pick 1 screw; when far bolt { pick 1 bolt; } when box bolt { } put 0 bolt; hand 1 bolt;")
	checkJob(t, "without the part", c, l, name(0), name(13), name(27), name(43), name(58), name(76), name(88))
	checkJob(t, "with the part", more, l, name(13), name(58), name(76), name(88))
}

// P1: every call returns, also for cells and statements that are not valid.
func TestEveryCallReturns(t *testing.T) {
	numbers := []int{math.MinInt, -1000, -18, -2, -1, 0, 1, 2, 3, 9, 19, 1000, math.MaxInt}
	full := described(t, bench)
	for _, n := range numbers {
		c := full
		q := api.Joints{n, n, n}
		c.Arms[0] = api.Arm{Base: api.Point{X: n, Y: n}, Lens: [3]int{n, n, n}, Wide: n, Low: q, High: q}
		c.Arms[1].Low, c.Arms[1].High = api.Joints{math.MinInt, -n, n}, api.Joints{n, math.MaxInt, n}
		c.Places = append(slices.Clone(c.Places), api.Place{}, api.Place{Name: "odd", At: api.Point{X: n, Y: -n}, Dir: api.Direction{X: n, Y: n, N: n}})
		for _, m := range numbers {
			for kind := range 11 {
				s := api.Stmt{Kind: kind, Arm: m, Part: "odd", Place: "odd", N: n, To: [2]api.Joints{q, {m, m, m}}}
				s.Kids = []api.Stmt{{Kind: m, Arm: n}, {Kind: kind}}
				checker.Check(c, []api.Stmt{s})
				checker.Check(api.Cell{}, []api.Stmt{s})
				checker.Check(full, []api.Stmt{s})
			}
		}
	}
	endless := []api.Stmt{{Kind: api.When}}
	endless[0].Kids = endless
	checker.Check(full, endless)
}

// P3: Check does not change its arguments.
func TestArgumentsStay(t *testing.T) {
	for seed := range int64(200) {
		draw := func() (api.Cell, []api.Stmt) {
			r := rand.New(rand.NewSource(seed))
			c := drawCell(r, stations(t))
			return c, drawJob(r, c, 64)
		}
		c, l := draw()
		sameC, sameL := draw()
		checker.Check(c, l)
		if !reflect.DeepEqual(c, sameC) || !reflect.DeepEqual(l, sameL) {
			t.Errorf("Check changes %v or %v", sameC, sameL)
		}
	}
}

// P3: results depend on the arguments alone and share no memory.
func TestIndependentResults(t *testing.T) {
	r := rand.New(rand.NewSource(3))
	stations := stations(t)
	for range 200 {
		c := drawCell(r, stations)
		l := drawJob(r, c, 64)
		first, second := checker.Check(c, l), checker.Check(c, l)
		want := answerTo(c, l)
		_ = append(first, name(-1))
		for i := range first {
			first[i] = api.Diagnostic{Err: api.ErrArg, At: -7}
		}
		if !slices.Equal(second, want) {
			t.Errorf("a change of one result changes another one to %v", second)
		}
		checkJob(t, "behind a change of an earlier result", c, l, want...)
	}
}

// P3: calls at the same time do not affect each other.
func TestConcurrentCalls(t *testing.T) {
	r := rand.New(rand.NewSource(33))
	stations := stations(t)
	var cells []api.Cell
	var jobs [][]api.Stmt
	for range 40 {
		c := drawCell(r, stations)
		cells, jobs = append(cells, c), append(jobs, drawJob(r, c, 64))
	}
	var group sync.WaitGroup
	for i := range 8 {
		group.Go(func() {
			for k := range cells {
				n := (k + 5*i) % len(cells)
				if got, want := checker.Check(cells[n], jobs[n]), answerTo(cells[n], jobs[n]); !slices.Equal(got, want) {
					t.Errorf("Check at the same time as others = %v, want %v", got, want)
				}
			}
		})
	}
	group.Wait()
}
