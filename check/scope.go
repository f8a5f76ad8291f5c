package check

import (
	"slices"

	"raddle/api"
)

// scope has the locals of a block, and the block around it.
type scope struct {
	locals []Typed
	outer  *scope
	// held says that it is in a task body, a Sync or an On: none of them is left by a Return or a Yield.
	held bool
	// task says that it begins a task body: what is outside is const there, but for the free names.
	task bool
	free []string
}

// inside returns the scope of a block in this one.
func (s *scope) inside() *scope { return &scope{outer: s, held: s.held} }

// heldInside returns the scope of the block of a Sync or an On.
func (s *scope) heldInside() *scope { return &scope{outer: s, held: true} }

// taskInside returns the scope of a task body.
func (s *scope) taskInside() *scope { return &scope{outer: s, held: true, task: true} }

// find returns the last local with a name, as it is seen from this scope.
func (s *scope) find(name string) (Typed, bool) {
	fixed := false
	for ; s != nil; s = s.outer {
		for _, l := range slices.Backward(s.locals) {
			if l.Name == name {
				l.Const = l.Const || fixed
				return l, true
			}
		}
		fixed = fixed || s.task && !slices.Contains(s.free, name)
	}
	return Typed{}, false
}

// declare adds a local, and leaves, if its block has one with this name.
func (s *scope) declare(t Typed) {
	if slices.ContainsFunc(s.locals, func(l Typed) bool { return l.Name == t.Name }) {
		panic(stop(api.ErrDuplicate))
	}
	s.locals = append(s.locals, t)
}
