package expand

import (
	"errors"
	"slices"

	"ambidexter/api"
	"ambidexter/arm"
)

// nothing is held by an empty gripper, and is the place of a part that is held or lost.
const nothing = -1

// tip is the index of the tool center point among the joint points of an arm, and lastLink the index of the link that ends there.
const (
	tip      = 3
	lastLink = 2
)

// workspace is a cell in a certain state.
type workspace struct {
	api.Cell
	api.State
}

// effects returns the functions that execute the kinds of steps. They change the state only after all checks.
func effects() map[int]func(x *workspace, s api.Step) {
	return map[int]func(x *workspace, s api.Step){
		api.StepGo:    (*workspace).move,
		api.StepBoth:  (*workspace).moveBoth,
		api.StepTake:  (*workspace).take,
		api.StepLeave: (*workspace).leave,
		api.StepWait:  (*workspace).wait,
	}
}

// refuseIf leaves the current step or statement by a panic if an error applies.
func refuseIf(applies bool, err api.Errno) {
	if applies {
		panic(err)
	}
}

// errnoOf returns the error for which a step or a statement was left.
func errnoOf(cause any) api.Errno {
	var number api.Errno
	if err, ok := cause.(error); ok {
		if errors.As(err, &number) {
			return number
		}
	}
	// Nothing is specified for arguments that are not valid, but indices might be out of range for them.
	return api.ErrArg
}

// Apply executes one step.
func Apply(c api.Cell, w api.State, s api.Step) (after api.State, err api.Errno) {
	defer func() {
		if cause := recover(); cause != nil {
			after, err = copyOf(w), errnoOf(cause)
		}
	}()
	x := workspace{c, copyOf(w)}
	execute, known := effects()[s.Kind]
	refuseIf(!known || !isBetween(s.Arm, 0, 1), api.ErrArg)
	execute(&x, s)
	return x.State, api.OK
}

// copyOf returns a state that is equal to w and shares no memory with it.
func copyOf(w api.State) api.State {
	w.Where = slices.Clone(w.Where)
	return w
}

// isBetween reports whether n is at least least and at most most.
func isBetween(n, least, most int) bool { return least <= n && n <= most }

// move moves an arm.
func (x *workspace) move(s api.Step) {
	refuseIf(!x.mayMove(s.Arm, s.To), api.ErrRange)
	x.Q[s.Arm] = s.To[s.Arm]
}

// moveBoth moves both arms.
func (x *workspace) moveBoth(s api.Step) {
	refuseIf(!x.mayMove(0, s.To) || !x.mayMove(1, s.To), api.ErrRange)
	x.Q = s.To
}

// take moves a part from a place into the gripper of an arm.
func (x *workspace) take(s api.Step) {
	refuseIf(!x.hasIndices(s), api.ErrArg)
	refuseIf(x.Held[s.Arm] != nothing, api.ErrHeld)
	refuseIf(x.Where[s.Part] != s.Place, api.ErrMissing)
	refuseIf(!x.isAt(s.Arm, s.Place), api.ErrUnreachable)
	x.Held[s.Arm], x.Where[s.Part] = s.Part, nothing
}

// leave moves a part from the gripper of an arm to a place.
func (x *workspace) leave(s api.Step) {
	refuseIf(!x.hasIndices(s), api.ErrArg)
	refuseIf(x.Held[s.Arm] != s.Part, api.ErrEmptyHand)
	refuseIf(x.isOccupied(s.Place), api.ErrOccupied)
	refuseIf(!x.isAt(s.Arm, s.Place), api.ErrUnreachable)
	x.Held[s.Arm], x.Where[s.Part] = nothing, s.Place
}

// wait leaves everything where it is.
func (x *workspace) wait(s api.Step) { refuseIf(!isBetween(s.N, 0, api.MaxTicks), api.ErrArg) }

// mayMove reports whether an arm may move to its joint values of to.
func (x *workspace) mayMove(k int, to [2]api.Joints) bool { return arm.InLimits(x.Arms[k], to[k]) }

// hasIndices reports whether the part and the place of s exist.
func (x *workspace) hasIndices(s api.Step) bool {
	return isBetween(s.Part, 0, len(x.Parts)-1) && isBetween(s.Place, 0, len(x.Places)-1)
}

// isOccupied reports whether a part is at a place.
func (x *workspace) isOccupied(place int) bool { return slices.Contains(x.Where, place) }

// isAt reports whether the gripper of an arm is at a place, in the direction of the place.
func (x *workspace) isAt(k, place int) bool {
	a, q, p := x.Arms[k], x.Q[k], x.Places[place]
	return arm.JointPoints(a, q)[tip] == p.At && arm.LinkDirections(a, q)[lastLink] == p.Dir
}

// EqualStates reports whether two states are equal.
func EqualStates(a api.State, b api.State) bool {
	return a.Q == b.Q && a.Held == b.Held && slices.Equal(a.Where, b.Where)
}
