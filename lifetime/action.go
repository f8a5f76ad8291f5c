package lifetime

// What a statement does, with the numbers that it uses.
type (
	scoping   struct{ a int }
	making    struct{ a int }
	moving    struct{ a, b int }
	copying   struct{ a, b int }
	borrowing struct{ a, b int }
	loading   struct{ a, b, f int }
	storing   struct{ a, f, b int }
	taking    struct{ a, b, f int }
	clearing  struct{ a int }
	freeing   struct{ a int }
	using     struct{ a int }
	testing   struct{ a int }
	choosing  struct{}
	looping   struct{}
)

// action returns what a statement does.
func action(s Stmt) any {
	switch s.Op {
	case Scope:
		return scoping{s.A}
	case New:
		return making{s.A}
	case Move:
		return moving{s.A, s.B}
	case Copy:
		return copying{s.A, s.B}
	case Borrow:
		return borrowing{s.A, s.B}
	case Load:
		return loading{s.A, s.B, s.F}
	case Store:
		return storing{s.A, s.F, s.B}
	case Take:
		return taking{s.A, s.B, s.F}
	case Clear:
		return clearing{s.A}
	case Free:
		return freeing{s.A}
	case Use:
		return using{s.A}
	case Test:
		return testing{s.A}
	case Either:
		return choosing{}
	}
	return looping{}
}

// step is a statement with its number in the order of the form.
type step struct {
	number      int
	does        any
	kids, other []step
}

// steps numbers statements, from next on.
func steps(l []Stmt, next *int) []step {
	var all []step
	for _, s := range l {
		x := step{number: *next, does: action(s)}
		*next++
		x.kids = steps(s.Kids, next)
		x.other = steps(s.Else, next)
		all = append(all, x)
	}
	return all
}
