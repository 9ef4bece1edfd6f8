package collision

import (
	"iter"
	"slices"

	"ambidexter/api"
	"ambidexter/arm"
	"ambidexter/cell"
)

// nothing is held by an empty gripper, and is the place of a part that is held or lost.
const nothing = -1

// tip is the index of the tool center point among the joint points of an arm.
const tip = 3

// farthest is the largest coordinate of a corner in range.
const farthest = api.Extent * api.Unit

// scene is a cell in a world state.
type scene struct {
	api.Cell
	api.State
}

// group is the bodies of one kind in every scene.
type group struct {
	kind    int
	members func(s scene) iter.Seq[api.Body] // without their kind
}

// groups returns the groups of bodies in their order.
func groups() []group {
	return []group{
		{api.BodyLink, scene.links},
		{api.BodyCarried, scene.carriedParts},
		{api.BodyResting, scene.restingParts},
		{api.BodyFixture, scene.fixtures},
	}
}

// bodies produces all bodies in their order. Their areas may share memory with the cell.
func (s scene) bodies() iter.Seq[api.Body] {
	return func(yield func(b api.Body) bool) {
		for _, g := range groups() {
			for b := range g.members(s) {
				b.Kind = g.kind
				if !yield(b) {
					return
				}
			}
		}
	}
}

// links produces the links of both arms.
func (s scene) links() iter.Seq[api.Body] {
	return func(yield func(b api.Body) bool) {
		for k, a := range s.Arms {
			for j, area := range arm.LinkPolygons(a, s.Q[k]) {
				if !yield(api.Body{I: k, J: j, Area: area}) {
					return
				}
			}
		}
	}
}

// carriedParts produces the parts that the arms hold.
func (s scene) carriedParts() iter.Seq[api.Body] {
	return func(yield func(b api.Body) bool) {
		for k, part := range s.Held {
			// Nothing is specified for states that are not valid, but a part in them need not exist.
			if !isIndex(part, len(s.Parts)) {
				continue
			}
			at, d := arm.JointPoints(s.Arms[k], s.Q[k])[tip], arm.LinkDirections(s.Arms[k], s.Q[k])[lastLink]
			if !yield(api.Body{I: k, Area: cell.PartAt(s.Parts[part], at, d)}) {
				return
			}
		}
	}
}

// restingParts produces the parts that are at places.
func (s scene) restingParts() iter.Seq[api.Body] {
	return func(yield func(b api.Body) bool) {
		for part, place := range s.Where {
			// Nothing is specified for states that are not valid, but a part or a place in them need not exist.
			if !isIndex(part, len(s.Parts)) || !isIndex(place, len(s.Places)) {
				continue
			}
			at, d := s.Places[place].At, s.Places[place].Dir
			if !yield(api.Body{I: part, Area: cell.PartAt(s.Parts[part], at, d)}) {
				return
			}
		}
	}
}

// fixtures produces the fixtures.
func (s scene) fixtures() iter.Seq[api.Body] {
	return func(yield func(b api.Body) bool) {
		for i, area := range s.Fixtures {
			if !yield(api.Body{I: i, Area: area}) {
				return
			}
		}
	}
}

// isIndex reports whether i is an index of a list of n elements.
func isIndex(i, n int) bool { return 0 <= i && i < n }

// copyOf returns a body that is equal to b and shares no memory with it.
func copyOf(b api.Body) api.Body {
	b.Area = slices.Clone(b.Area)
	return b
}

// Bodies returns all bodies of a cell in a world state.
func Bodies(c api.Cell, w api.State) []api.Body {
	var l []api.Body
	for b := range (scene{c, w}).bodies() {
		l = append(l, copyOf(b))
	}
	return l
}

// ValidState reports whether a world state is valid for a cell.
func ValidState(c api.Cell, w api.State) bool {
	s := scene{c, w}
	// The places of parts come before the held parts, which are looked up among them.
	return s.hasValidJoints() && s.hasValidPlaces() && s.hasValidGrippers() && s.isInRange()
}

// hasValidJoints reports whether the joint values of each arm are within its limits.
func (s scene) hasValidJoints() bool {
	return arm.InLimits(s.Arms[0], s.Q[0]) && arm.InLimits(s.Arms[1], s.Q[1])
}

// hasValidPlaces reports whether each part is at a place of its own or at none.
func (s scene) hasValidPlaces() bool {
	if len(s.Where) != len(s.Parts) {
		return false
	}
	for part, place := range s.Where {
		if place == nothing {
			continue
		}
		if !isIndex(place, len(s.Places)) || slices.Contains(s.Where[:part], place) {
			return false
		}
	}
	return true
}

// hasValidGrippers reports whether each arm holds a part of its own, which is at no place, or none.
func (s scene) hasValidGrippers() bool {
	for _, part := range s.Held {
		if part == nothing {
			continue
		}
		if !isIndex(part, len(s.Parts)) || s.Where[part] != nothing {
			return false
		}
	}
	return s.Held[0] == nothing || s.Held[0] != s.Held[1]
}

// isInRange reports whether all corners of all bodies are in range.
func (s scene) isInRange() bool {
	for b := range s.bodies() {
		if slices.ContainsFunc(b.Area, isOutOfRange) {
			return false
		}
	}
	return true
}

// isOutOfRange reports whether a corner is not in range.
func isOutOfRange(corner api.Point) bool {
	return min(corner.X, corner.Y) < -farthest || max(corner.X, corner.Y) > farthest
}
