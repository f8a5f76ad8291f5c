package lifetime

import "raddle/api"

// What a variable has: nothing yet (also if it is not open), nil, an object, or nothing any more.
const (
	unset = iota
	null
	held
	gone
)

type variable struct{ state, object int }

// object is an object of a class: its fields have the numbers of objects, or 0 for nil.
type object struct {
	class, count int
	fields       []int
	dead         bool
}

// runner performs a program; the object with the number n stands at n - 1.
type runner struct {
	p       Program
	vars    []variable
	objects []object
	choices []bool
	fuel    int
	result  Result
}

// whole returns the result of a run that has ended.
func (r *runner) whole() Result {
	r.result.Made = len(r.objects)
	r.result.Left = len(r.objects) - len(r.result.Deleted)
	return r.result
}

func (r *runner) block(l []Stmt) {
	for _, s := range l {
		r.step(s)
	}
}

// step performs a statement: one that has others in it, or one that does something with references.
func (r *runner) step(s Stmt) {
	if r.result.Steps == r.fuel {
		panic(fault{code: api.ErrFuel})
	}
	r.result.Steps++
	switch x := action(s).(type) {
	case scoping:
		if r.p.Vars[x.a].Nilable {
			r.vars[x.a] = reference(0)
		}
		r.block(s.Kids)
		r.set(x.a, variable{state: unset})
	case testing:
		r.branch(r.taken(x.a, true).object != 0, s)
	case choosing:
		r.branch(r.choice(), s)
	case looping:
		for r.choice() {
			r.block(s.Kids)
		}
	default:
		r.refer(x)
	}
}

func (r *runner) branch(first bool, s Stmt) {
	if first {
		r.block(s.Kids)
	} else {
		r.block(s.Else)
	}
}

// choice returns the next choice; behind the last one all are false.
func (r *runner) choice() bool {
	if len(r.choices) == 0 {
		return false
	}
	next := r.choices[0]
	r.choices = r.choices[1:]
	return next
}

// refer performs a statement without others in it.
func (r *runner) refer(does any) {
	switch x := does.(type) {
	case making:
		r.objects = append(r.objects, object{count: 1, class: r.p.Vars[x.a].Class})
		made := &r.objects[len(r.objects)-1]
		made.fields = make([]int, len(r.p.Classes[made.class]))
		r.set(x.a, reference(len(r.objects)))
	case moving:
		v := r.taken(x.b, r.p.Vars[x.a].Nilable)
		r.vars[x.b] = variable{state: gone}
		r.set(x.a, v)
	case copying:
		v := r.taken(x.b, r.p.Vars[x.a].Nilable)
		r.share(r.p.Vars[x.a].Kind, v.object)
		r.set(x.a, v)
	case borrowing:
		r.set(x.a, r.taken(x.b, r.p.Vars[x.a].Nilable))
	case loading:
		o := r.needed(x.b).fields[x.f]
		r.share(r.p.Vars[x.a].Kind, o)
		r.set(x.a, reference(o))
	case storing:
		r.store(x)
	case taking:
		fields := r.needed(x.b).fields
		o := fields[x.f]
		fields[x.f] = 0
		r.set(x.a, reference(o))
	case clearing:
		r.set(x.a, reference(0))
	case freeing:
		r.needed(x.a)
		r.delete(r.vars[x.a].object)
	case using:
		r.needed(x.a)
		r.result.Uses = append(r.result.Uses, r.vars[x.a].object)
	}
}

func (r *runner) store(x storing) {
	fields := r.needed(x.a).fields
	field := r.p.Classes[r.p.Vars[x.a].Class][x.f]
	v := r.taken(x.b, true)
	if field.Kind == Owned {
		r.vars[x.b] = variable{state: gone}
	}
	r.share(field.Kind, v.object)
	r.release(field.Kind, fields[x.f])
	fields[x.f] = v.object
}

// reference returns what a variable is that has an object, or nil.
func reference(object int) variable {
	if object == 0 {
		return variable{state: null}
	}
	return variable{state: held, object: object}
}

// needed returns the object of a variable, and leaves, if it has none, or a deleted one.
func (r *runner) needed(v int) *object {
	switch r.vars[v].state {
	case gone:
		panic(fault{code: ErrMoved})
	case held:
		o := &r.objects[r.vars[v].object-1]
		if o.dead {
			panic(fault{code: ErrDead})
		}
		return o
	}
	panic(fault{code: ErrNil})
}

// taken returns the value of a variable, which may be nil, if the target may.
func (r *runner) taken(v int, nilable bool) variable {
	if !nilable || r.vars[v].state != null {
		r.needed(v)
	}
	return r.vars[v]
}

// set gives a variable a new value, behind the release of the old one.
func (r *runner) set(v int, to variable) {
	r.release(r.p.Vars[v].Kind, r.vars[v].object)
	r.vars[v] = to
}

// share counts a further reference of a kind to an object, if it is one that is counted.
func (r *runner) share(kind, object int) {
	if kind == Shared && object != 0 {
		r.objects[object-1].count++
		r.result.Updates++
	}
}

// release does what the end of a reference of a kind to an object, or to nothing, does to this.
func (r *runner) release(kind, object int) {
	if object == 0 {
		return
	}
	switch kind {
	case Owned:
		r.delete(object)
	case Shared:
		o := &r.objects[object-1]
		o.count--
		r.result.Updates++
		if o.count == 0 {
			r.delete(object)
		}
	}
}

// delete deletes an object, unless this was done.
func (r *runner) delete(object int) {
	o := &r.objects[object-1]
	if o.dead {
		return
	}
	o.dead = true
	r.result.Deleted = append(r.result.Deleted, object)
	for i, f := range r.p.Classes[o.class] {
		r.release(f.Kind, o.fields[i])
	}
}
