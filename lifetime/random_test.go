package lifetime_test

import (
	"maps"
	"math/rand"
	"slices"
	"strings"
	"testing"

	"raddle/api"
	"raddle/lifetime"
)

// maker makes programs of the required form. Without unmanaged ones they have neither unmanaged variables nor fields.
type maker struct {
	*rand.Rand
	p         lifetime.Program
	open      []bool
	unmanaged bool
	cyclic    bool
	left      int
}

func (r *maker) kind() int {
	l := []int{lifetime.Owned, lifetime.Shared}
	if r.unmanaged {
		l = append(l, lifetime.Unmanaged)
	}
	return l[r.Intn(len(l))]
}

func (r *maker) program() lifetime.Program {
	classes := 1 + r.Intn(3)
	r.p = lifetime.Program{}
	for c := range classes {
		var l []lifetime.Field
		for range r.Intn(4) {
			to := r.Intn(classes)
			if !r.cyclic {
				to = c + 1 + r.Intn(3)
			}
			if to < classes {
				l = append(l, lifetime.Field{Kind: r.kind(), Class: to})
			}
		}
		r.p.Classes = append(r.p.Classes, l)
	}
	for range 3 + r.Intn(6) {
		kind := r.kind()
		if r.Intn(3) == 0 {
			kind = lifetime.Borrowed
		}
		r.p.Vars = append(r.p.Vars, lifetime.Var{Kind: kind, Class: r.Intn(classes), Nilable: r.Intn(3) > 0})
	}
	r.open, r.left = make([]bool, len(r.p.Vars)), 40
	r.p.Body = r.block(0)
	return r.p
}

func (r *maker) block(depth int) []stmt {
	var l []stmt
	for range 1 + r.Intn(5) {
		if r.left--; r.left > 0 {
			l = append(l, r.statement(depth))
		}
	}
	return l
}

// statement makes a statement that has no error at its place.
func (r *maker) statement(depth int) stmt {
	if v := r.Intn(len(r.open)); !r.open[v] && depth < 12 && (depth < 4 || r.Intn(3) == 0) {
		r.open[v] = true
		s := stmt{Op: lifetime.Scope, A: v, Kids: append(r.fill(v), r.block(depth+1)...)}
		r.open[v] = false
		return s
	}
	for range 30 {
		s := r.simple()
		if depth < 15 && r.Intn(8) == 0 {
			s = stmt{Op: []int{lifetime.Test, lifetime.Either, lifetime.Loop}[r.Intn(3)]}
			s.A = r.Intn(len(r.open))
			if s.Op != lifetime.Test {
				s.A = 0
			}
		}
		if _, e := lifetime.Form(r.around(s)); e != api.OK {
			continue
		}
		if s.Op >= lifetime.Test {
			s.Kids = r.block(depth + 1)
			if s.Op != lifetime.Loop && r.Intn(2) == 0 {
				s.Else = r.block(depth + 1)
			}
		}
		return s
	}
	return stmt{Op: lifetime.Loop}
}

// fill makes a statement that gives a variable an object, most often.
func (r *maker) fill(v int) []stmt {
	if r.Intn(4) == 0 {
		return nil
	}
	if s := do(lifetime.New, v); r.p.Vars[v].Kind != lifetime.Borrowed {
		return []stmt{s}
	}
	for b := range r.open {
		s := do(lifetime.Borrow, v, b)
		if _, e := lifetime.Form(r.around(s)); e == api.OK {
			return []stmt{s}
		}
	}
	return nil
}

func (r *maker) simple() stmt {
	op := lifetime.New + r.Intn(lifetime.Use-lifetime.New+1)
	a, b, f := r.Intn(len(r.open)), r.Intn(len(r.open)), r.Intn(3)
	switch op {
	case lifetime.New, lifetime.Clear, lifetime.Free, lifetime.Use:
		return do(op, a)
	case lifetime.Load, lifetime.Store, lifetime.Take:
		return do(op, a, b, f)
	}
	return do(op, a, b)
}

// around returns a program in which a statement stands where the open variables are open.
func (r *maker) around(s stmt) lifetime.Program {
	p := r.p
	var open []int
	for v, is := range r.open {
		if is {
			open = append(open, v)
		}
	}
	p.Body = in([]stmt{s}, open...)
	return p
}

// state is what may be: of each variable words, and what borrowed ones hang on.
type state struct {
	be    map[int]map[string]bool
	hangs map[int]map[[2]int]bool
}

func newState() state {
	return state{map[int]map[string]bool{}, map[int]map[[2]int]bool{}}
}

func (s state) clone() state {
	c := newState()
	for v, m := range s.be {
		c.be[v] = maps.Clone(m)
	}
	for v, m := range s.hangs {
		c.hangs[v] = maps.Clone(m)
	}
	return c
}

func (s state) or(other state) state {
	c := s.clone()
	for v, m := range other.be {
		if c.be[v] == nil {
			c.be[v] = map[string]bool{}
		}
		maps.Copy(c.be[v], m)
	}
	for v, m := range other.hangs {
		if c.hangs[v] == nil {
			c.hangs[v] = map[[2]int]bool{}
		}
		maps.Copy(c.hangs[v], m)
	}
	return c
}

func (s state) equal(other state) bool {
	same := func(a, b state) bool {
		for v, m := range a.be {
			for w := range m {
				if !b.be[v][w] {
					return false
				}
			}
		}
		for v, m := range a.hangs {
			for w := range m {
				if !b.hangs[v][w] {
					return false
				}
			}
		}
		return true
	}
	return same(s, other) && same(other, s)
}

func words(text string) map[string]bool {
	m := map[string]bool{}
	for _, w := range strings.Fields(text) {
		m[w] = true
	}
	return m
}

// slow looks for errors statement by statement, and goes through each loop again and again until nothing changes. A variable v hangs as {-1, v}, a field as {class, field}.
type slow struct {
	p     lifetime.Program
	path  []int
	code  api.Errno
	tells bool
}

func (c *slow) fall(s state, what [2]int) {
	for v, m := range s.hangs {
		if c.p.Vars[v].Kind == lifetime.Borrowed && m[what] && s.be[v]["object"] {
			s.be[v]["dead"] = true
		}
	}
}

func (c *slow) counted(v int) bool {
	return c.p.Vars[v].Kind == lifetime.Owned || c.p.Vars[v].Kind == lifetime.Shared
}

func (c *slow) set(s state, v int, be map[string]bool, hangs map[[2]int]bool) {
	s.be[v], s.hangs[v] = be, map[[2]int]bool{}
	if c.p.Vars[v].Kind == lifetime.Borrowed {
		s.hangs[v] = hangs
	}
	if c.counted(v) {
		c.fall(s, [2]int{-1, v})
	}
}

// need notes the first error of a variable in the order of the form.
func (c *slow) need(s state, v int, nilable bool, path []int) {
	if !c.tells || c.code != api.OK {
		return
	}
	be := s.be[v]
	switch {
	case be["dead"]:
		c.code = lifetime.ErrDead
	case be["moved"]:
		c.code = lifetime.ErrMoved
	case be["unset"] || be["nil"] && !nilable:
		c.code = lifetime.ErrNil
	default:
		return
	}
	c.path = slices.Clone(path)
}

func taken(be map[string]bool) map[string]bool {
	m := map[string]bool{}
	for w := range be {
		if w == "nil" {
			m["nil"] = true
		} else {
			m["object"] = true
		}
	}
	return m
}

func (c *slow) block(l []stmt, s state, path []int, first int) state {
	for i, x := range l {
		s = c.statement(x, s.clone(), append(slices.Clone(path), first+i))
	}
	return s
}

func (c *slow) hanging(s state, v int) map[[2]int]bool {
	m := maps.Clone(s.hangs[v])
	if m == nil {
		m = map[[2]int]bool{}
	}
	if c.counted(v) {
		m[[2]int{-1, v}] = true
	}
	return m
}

func (c *slow) statement(x stmt, s state, path []int) state {
	nilable := x.A < len(c.p.Vars) && c.p.Vars[x.A].Nilable
	switch x.Op {
	case lifetime.Scope:
		s.hangs[x.A] = nil
		s.be[x.A] = words("unset")
		if nilable {
			s.be[x.A] = words("nil")
		}
		s = c.block(x.Kids, s, path, 0)
		c.set(s, x.A, nil, nil)
	case lifetime.New:
		c.set(s, x.A, words("object"), nil)
	case lifetime.Move:
		c.need(s, x.B, nilable, path)
		be := taken(s.be[x.B])
		c.set(s, x.B, words("moved"), nil)
		c.set(s, x.A, be, nil)
	case lifetime.Copy, lifetime.Borrow:
		c.need(s, x.B, nilable, path)
		c.set(s, x.A, taken(s.be[x.B]), c.hanging(s, x.B))
	case lifetime.Load:
		c.need(s, x.B, false, path)
		hangs := c.hanging(s, x.B)
		hangs[[2]int{c.p.Vars[x.B].Class, x.F}] = true
		c.set(s, x.A, words("nil object"), hangs)
	case lifetime.Store:
		c.need(s, x.A, false, path)
		c.need(s, x.B, true, path)
		kind := c.p.Classes[c.p.Vars[x.A].Class][x.F].Kind
		if kind == lifetime.Owned {
			c.set(s, x.B, words("moved"), nil)
		}
		if kind != lifetime.Unmanaged {
			c.fall(s, [2]int{c.p.Vars[x.A].Class, x.F})
		}
	case lifetime.Take:
		c.need(s, x.B, false, path)
		c.fall(s, [2]int{c.p.Vars[x.B].Class, x.F})
		c.set(s, x.A, words("nil object"), nil)
	case lifetime.Clear:
		c.set(s, x.A, words("nil"), nil)
	case lifetime.Free:
		c.need(s, x.A, false, path)
		s.be[x.A] = words("dead")
	case lifetime.Use:
		c.need(s, x.A, false, path)
	case lifetime.Test:
		c.need(s, x.A, true, path)
		other := s.clone()
		s.be[x.A], other.be[x.A] = words("object"), words("nil")
		s = c.block(x.Kids, s, path, 0)
		return s.or(c.block(x.Else, other, path, 1000))
	case lifetime.Either:
		first := c.block(x.Kids, s, path, 0)
		return first.or(c.block(x.Else, s, path, 1000))
	case lifetime.Loop:
		return c.loop(x, s, path)
	}
	return s
}

func (c *slow) loop(x stmt, s state, path []int) state {
	tells := c.tells
	c.tells = false
	for {
		next := s.or(c.block(x.Kids, s, path, 0))
		if next.equal(s) {
			break
		}
		s = next
	}
	c.tells = tells
	c.block(x.Kids, s, path, 0)
	return s
}

// TestCheckRandom compares Check with the slow one.
func TestCheckRandom(t *testing.T) {
	r := &maker{Rand: rand.New(rand.NewSource(15)), cyclic: true}
	seen := map[api.Errno]int{}
	for i := range 2000 {
		r.unmanaged = i%3 == 0
		p := r.program()
		if path, e := lifetime.Form(p); e != api.OK {
			t.Fatalf("%v has the error %v at %v", p, e, path)
		}
		c := &slow{p: p, tells: true}
		c.block(p.Body, newState(), nil, 0)
		path, e := lifetime.Check(p)
		seen[e]++
		if e != c.code || !slices.Equal(path, c.path) {
			text, _ := lifetime.Text(p)
			t.Fatalf("%s: Check = %v, %v, want %v, %v", text, path, e, c.path, c.code)
		}
	}
	for _, e := range []api.Errno{api.OK, lifetime.ErrDead, lifetime.ErrMoved, lifetime.ErrNil} {
		if seen[e] < 20 {
			t.Errorf("%v: %d times", e, seen[e])
		}
	}
}

func (r *maker) choices() []bool {
	var l []bool
	for range r.Intn(40) {
		l = append(l, r.Intn(3) > 0)
	}
	return l
}

// accepted makes a program without unmanaged ones that has no error of Check: statements that have one are left out.
func (r *maker) accepted() lifetime.Program {
	p := r.program()
	for {
		path, e := lifetime.Check(p)
		if e == api.OK {
			return p
		}
		p.Body = without(p.Body, path)
	}
}

// without returns statements without that at a path.
func without(l []stmt, path []int) []stmt {
	l = slices.Clone(l)
	i := path[0] % 1000
	switch {
	case len(path) == 1:
		return slices.Delete(l, i, i+1)
	case path[1] >= 1000:
		l[i].Else = without(l[i].Else, path[1:])
	default:
		l[i].Kids = without(l[i].Kids, path[1:])
	}
	return l
}

func branches(l []stmt) bool {
	return slices.ContainsFunc(l, func(s stmt) bool {
		return s.Op == lifetime.Either || s.Op == lifetime.Loop || branches(s.Kids) || branches(s.Else)
	})
}

// TestSafe asks P15.2 to P15.5 of random programs and choices.
func TestSafe(t *testing.T) {
	r := &maker{Rand: rand.New(rand.NewSource(16))}
	moves, uses, deleted, plain, fuels := 0, 0, 0, 0, 0
	for i := range 6000 {
		r.cyclic = i%2 == 0
		p := r.accepted()
		elided, n, e := lifetime.Elide(p)
		if _, e2 := lifetime.Check(elided); e != api.OK || e2 != api.OK {
			t.Fatalf("Elide: %v, %v", e, e2)
		}
		moves += n
		alone, _ := lifetime.Run(p, nil, 5000)
		for range 6 {
			choices, fuel := r.choices(), []int{5000, 5000, r.Intn(60)}[r.Intn(3)]
			got, e := lifetime.Run(p, choices, fuel)
			if e != api.OK || got.End != api.OK && got.End != api.ErrFuel {
				text, _ := lifetime.Text(p)
				t.Fatalf("%s: Run = %+v, %v", text, got, e)
			}
			if !branches(p.Body) && fuel == 5000 {
				if plain++; !equal(got, alone) {
					t.Fatalf("another run without choices: %+v, %+v", got, alone)
				}
			}
			uses, deleted = uses+len(got.Uses), deleted+len(got.Deleted)
			if got.End == api.ErrFuel {
				fuels++
			}
			askEnd(t, p, got)
			after, _ := lifetime.Run(elided, choices, fuel)
			if after.End != got.End || after.Steps != got.Steps || !slices.Equal(after.Uses, got.Uses) || after.Made != got.Made {
				t.Fatalf("elided: %+v, was %+v", after, got)
			}
			if got.End == api.OK && (after.Left != got.Left || after.Updates > got.Updates) {
				t.Fatalf("elided: %+v, was %+v", after, got)
			}
		}
	}
	if moves < 200 || uses < 2000 || deleted < 5000 || plain < 500 || fuels < 100 {
		t.Errorf("%d moves, %d uses, %d deleted, %d without choices, %d without fuel", moves, uses, deleted, plain, fuels)
	}
}

// askOnce asks that no object is deleted twice, and that the others are left.
func askOnce(t *testing.T, r lifetime.Result) {
	t.Helper()
	l := slices.Sorted(slices.Values(r.Deleted))
	if len(slices.Compact(slices.Clone(l))) != len(l) || r.Left != r.Made-len(l) {
		t.Fatalf("deleted: %v of %d, left %d", r.Deleted, r.Made, r.Left)
	}
}

// askEnd asks P15.3 of a run.
func askEnd(t *testing.T, p lifetime.Program, r lifetime.Result) {
	t.Helper()
	askOnce(t, r)
	if r.End == api.OK && lifetime.Acyclic(p) && r.Left != 0 {
		text, _ := lifetime.Text(p)
		t.Fatalf("%s: %d objects are left", text, r.Left)
	}
}

// TestRunRandom asks of runs of any programs that they depend on the choices alone, and that no object is deleted twice.
func TestRunRandom(t *testing.T) {
	r := &maker{Rand: rand.New(rand.NewSource(17)), cyclic: true, unmanaged: true}
	seen := map[api.Errno]int{}
	for range 5000 {
		p := r.program()
		choices := r.choices()
		got, e := lifetime.Run(p, choices, 500)
		if e != api.OK {
			t.Fatalf("Run = %v", e)
		}
		seen[got.End]++
		if again, _ := lifetime.Run(p, choices, 500); !equal(again, got) {
			t.Fatalf("another run: %+v, %+v", again, got)
		}
		if more, _ := lifetime.Run(p, append(choices, false, false), 500); !equal(more, got) {
			t.Fatalf("with choices that are false behind: %+v, %+v", more, got)
		}
		askOnce(t, got)
	}
	for _, e := range []api.Errno{api.OK, lifetime.ErrDead, lifetime.ErrMoved, lifetime.ErrNil} {
		if seen[e] < 20 {
			t.Errorf("%v: %d times", e, seen[e])
		}
	}
}
