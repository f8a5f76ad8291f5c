package lifetime_test

import (
	"slices"
	"strings"
	"testing"

	"raddle/api"
	"raddle/lifetime"
)

type stmt = lifetime.Stmt

func do(op int, numbers ...int) stmt {
	s := stmt{Op: op}
	for i, n := range numbers {
		*[]*int{&s.A, &s.B, &s.F}[i] = n
	}
	return s
}

// in puts statements into the scopes of variables.
func in(l []stmt, vars ...int) []stmt {
	for _, v := range slices.Backward(vars) {
		l = []stmt{{Op: lifetime.Scope, A: v, Kids: l}}
	}
	return l
}

// world has two classes: the first one with the fields owned 1, shared 1, unmanaged 0 and owned 0, the second one without any; and a variable of each kind and class, that may be nil or not: 0 to 7 of the class 0, 8 to 15 of the class 1, in the order of the kinds, nilable ones first; 16 and 17 are a further owned and shared one of the class 1, nilable.
func world(body ...stmt) lifetime.Program {
	p := lifetime.Program{Classes: [][]lifetime.Field{{{lifetime.Owned, 1}, {lifetime.Shared, 1}, {lifetime.Unmanaged, 0}, {lifetime.Owned, 0}}, nil}, Body: body}
	for class := range 2 {
		for kind := lifetime.Owned; kind <= lifetime.Unmanaged; kind++ {
			p.Vars = append(p.Vars, lifetime.Var{Kind: kind, Class: class, Nilable: true}, lifetime.Var{Kind: kind, Class: class})
		}
	}
	p.Vars = append(p.Vars, lifetime.Var{Kind: lifetime.Owned, Class: 1, Nilable: true}, lifetime.Var{Kind: lifetime.Shared, Class: 1, Nilable: true})
	return p
}

// Variables of world: the kind, the class, and n for nilable.
const (
	own0n = iota
	own0
	shared0n
	shared0
	borrow0n
	borrow0
	raw0n
	raw0
	own1n
	own1
	shared1n
	shared1
	borrow1n
	borrow1
	raw1n
	raw1
	other1n
	others1n
)

// all puts a statement into the scopes of all variables.
func all(l ...stmt) []stmt {
	return in(l, 0, 1, 2, 3, 4, 5, 6, 7, 8, 9, 10, 11, 12, 13, 14, 15, 16, 17)
}

// TestKinds asks for each statement with all variables and fields which ones fit.
func TestKinds(t *testing.T) {
	vars := world().Vars
	fields := world().Classes[0]
	for op := lifetime.Scope; op <= lifetime.Loop; op++ {
		for a := range vars {
			for b := range vars {
				for f := range fields {
					s, fits := sample(op, a, b, f, vars, fields)
					want := api.OK
					if !fits {
						want = lifetime.ErrKind
					}
					if s.Op == lifetime.Scope || (s.Op == lifetime.Load || s.Op == lifetime.Take) && vars[b].Class == 1 || s.Op == lifetime.Store && vars[a].Class == 1 {
						continue
					}
					if _, e := lifetime.Form(world(all(s)...)); e != want {
						t.Fatalf("%v: Form = %v, want %v", s, e, want)
					}
				}
			}
		}
	}
}

// sample returns a statement, and whether the rule of the chapter's table holds.
func sample(op, a, b, f int, vars []lifetime.Var, fields []lifetime.Field) (stmt, bool) {
	x, y, field := vars[a], vars[b], fields[f]
	const owned, shared, borrowed, unmanaged = lifetime.Owned, lifetime.Shared, lifetime.Borrowed, lifetime.Unmanaged
	class := x.Class == y.Class
	switch op {
	case lifetime.New:
		return do(op, a), x.Kind == owned || x.Kind == shared || x.Kind == unmanaged
	case lifetime.Move:
		kinds := [2]int{x.Kind, y.Kind}
		return do(op, a, b), a != b && class && (kinds == [2]int{owned, owned} || kinds == [2]int{shared, shared} || kinds == [2]int{shared, owned})
	case lifetime.Copy:
		return do(op, a, b), a != b && class && x.Kind == y.Kind && x.Kind != owned
	case lifetime.Borrow:
		return do(op, a, b), class && x.Kind == borrowed && y.Kind != borrowed
	case lifetime.Load:
		kinds := field.Kind == owned && x.Kind == borrowed || field.Kind == shared && (x.Kind == borrowed || x.Kind == shared) || field.Kind == unmanaged && x.Kind == unmanaged
		return do(op, a, b, f), field.Class == x.Class && x.Nilable && kinds
	case lifetime.Store:
		return do(op, a, b, f), field.Class == y.Class && field.Kind == y.Kind
	case lifetime.Take:
		return do(op, a, b, f), field.Kind == owned && field.Class == x.Class && x.Kind == owned && x.Nilable
	case lifetime.Clear:
		return do(op, a), x.Nilable
	case lifetime.Free:
		return do(op, a), x.Kind == unmanaged
	case lifetime.Use, lifetime.Test:
		return do(op, a), true
	}
	return do(op), true
}

// TestForm asks for paths and errors of forms, and their order.
func TestForm(t *testing.T) {
	use := do(lifetime.Use, own0)
	deep := func(n int) []stmt {
		l := []stmt{do(lifetime.Loop)}
		for range n - 1 {
			l = []stmt{{Op: lifetime.Loop, Kids: l}}
		}
		return l
	}
	cycle := []stmt{{Op: lifetime.Loop}}
	cycle[0].Kids = cycle
	wide := slices.Repeat([]stmt{do(lifetime.Loop)}, 200)
	wideElse := []stmt{{Op: lifetime.Either, Kids: wide[:100], Else: wide[:99]}}
	badVar := world(use)
	badVar.Vars[3].Kind = 0
	badField := world(use)
	badField.Classes[0][2].Kind = lifetime.Borrowed
	noClass := world(use)
	noClass.Vars[0].Class = 2
	noField := world(use)
	noField.Classes[0][0].Class = -1
	manyVars := world(deep(21)...)
	manyVars.Vars = append(manyVars.Vars, make([]lifetime.Var, 3)...)
	manyClasses := lifetime.Program{Classes: make([][]lifetime.Field, 9)}
	manyFields := lifetime.Program{Classes: [][]lifetime.Field{nil, make([]lifetime.Field, 9)}}
	most := lifetime.Program{Classes: slices.Repeat([][]lifetime.Field{slices.Repeat([]lifetime.Field{{lifetime.Owned, 7}}, 8)}, 8), Vars: slices.Repeat([]lifetime.Var{{lifetime.Borrowed, 7, false}}, 20)}
	for i, c := range []struct {
		p    lifetime.Program
		path []int
		e    api.Errno
	}{
		{lifetime.Program{}, nil, api.OK},
		{world(all(use)...), nil, api.OK},
		{most, nil, api.OK},
		{manyClasses, nil, api.ErrCount},
		{manyFields, nil, api.ErrCount},
		{manyVars, nil, api.ErrCount},
		{world(wide...), nil, api.OK},
		{world(append(wide, use)...), nil, api.ErrCount},
		{world(wideElse...), nil, api.OK},
		{world(append(wideElse, use)...), nil, api.ErrCount},
		{world(cycle...), nil, api.ErrCount},
		{world(deep(20)...), nil, api.OK},
		{world(deep(21)...), nil, api.ErrDepth},
		{world(append(deep(21), stmt{})...), nil, api.ErrDepth},
		{world(append(deep(21), wide...)...), nil, api.ErrCount},
		{badVar, nil, lifetime.ErrKind},
		{badField, nil, lifetime.ErrKind},
		{noClass, nil, lifetime.ErrKind},
		{noField, nil, lifetime.ErrKind},
		// statements
		{world(stmt{}), []int{0}, api.ErrForm},
		{world(do(15)), []int{0}, api.ErrForm},
		{world(do(-1)), []int{0}, api.ErrForm},
		{world(do(lifetime.New, own0, 1)), []int{0}, api.ErrForm},
		{world(do(lifetime.Move, own0, own0n, 1)), []int{0}, api.ErrForm},
		{world(do(lifetime.Either, 1)), []int{0}, api.ErrForm},
		{world(do(lifetime.Loop, 0, 1)), []int{0}, api.ErrForm},
		{world(stmt{Op: lifetime.Use, Kids: []stmt{use}}), []int{0}, api.ErrForm},
		{world(stmt{Op: lifetime.Loop, Else: []stmt{use}}), []int{0}, api.ErrForm},
		{world(stmt{Op: lifetime.Scope, Else: []stmt{use}}), []int{0}, api.ErrForm},
		{world(stmt{Op: lifetime.Use, A: 99, Else: []stmt{use}}), []int{0}, api.ErrForm},
		{world(stmt{Op: lifetime.Use, Kids: []stmt{}, A: own0}), []int{0}, lifetime.ErrScope},
		{world(do(lifetime.Use, 18)), []int{0}, api.ErrRange},
		{world(do(lifetime.Use, -1)), []int{0}, api.ErrRange},
		{world(do(lifetime.Copy, own0, 18)), []int{0}, api.ErrRange},
		{world(do(lifetime.Load, borrow1n, own0, 4)), []int{0}, api.ErrRange},
		{world(do(lifetime.Load, own0, own0, -1)), []int{0}, api.ErrRange},
		{world(do(lifetime.Load, own0, own1, 0)), []int{0}, api.ErrRange},
		{world(do(lifetime.Store, own1, own0, 0)), []int{0}, api.ErrRange},
		{world(do(lifetime.Take, own0, own1, 0)), []int{0}, api.ErrRange},
		{world(do(lifetime.Scope, 18)), []int{0}, api.ErrRange},
		{world(use), []int{0}, lifetime.ErrScope},
		{world(do(lifetime.Move, own0, own0)), []int{0}, lifetime.ErrScope},
		{world(in([]stmt{do(lifetime.Move, own0, own0)}, own0)...), []int{0, 0}, lifetime.ErrKind},
		{world(in([]stmt{do(lifetime.Copy, shared0, shared0n)}, shared0)...), []int{0, 0}, lifetime.ErrScope},
		{world(in([]stmt{do(lifetime.Scope, own0)}, own0)...), []int{0, 0}, lifetime.ErrScope},
		{world(append(in([]stmt{use}, own0), use)...), []int{1}, lifetime.ErrScope},
		{world(append(in([]stmt{use}, own0), in([]stmt{use}, own0)...)...), nil, api.OK},
		// order and paths
		{world(in([]stmt{{Op: lifetime.Either, Kids: []stmt{use, do(lifetime.Use, own1)}, Else: []stmt{{}}}}, own0)...), []int{0, 0, 1}, lifetime.ErrScope},
		{world(in([]stmt{{Op: lifetime.Either, Kids: []stmt{use}, Else: []stmt{use, {}}}}, own0)...), []int{0, 0, 1001}, api.ErrForm},
		{world(in([]stmt{{Op: lifetime.Test, A: own1, Kids: []stmt{{}}}}, own0)...), []int{0, 0}, lifetime.ErrScope},
		{world(in([]stmt{{Op: lifetime.Test, Kids: []stmt{{Op: lifetime.Loop, Kids: []stmt{use, {Op: 20}}}}}}, own0n, own0)...), []int{0, 0, 0, 0, 1}, api.ErrForm},
		{world(in([]stmt{{Op: lifetime.Either, Else: []stmt{{Op: lifetime.Either, Else: []stmt{{}}}}}}, own0)...), []int{0, 0, 1000, 1000}, api.ErrForm},
	} {
		path, e := lifetime.Form(c.p)
		if !slices.Equal(path, c.path) || e != c.e {
			t.Errorf("%d: Form = %v, %v, want %v, %v", i, path, e, c.path, c.e)
		}
		if e == api.OK {
			continue
		}
		if path, e := lifetime.Check(c.p); !slices.Equal(path, c.path) || e != c.e {
			t.Errorf("%d: Check = %v, %v, want %v, %v", i, path, e, c.path, c.e)
		}
		if r, e := lifetime.Run(c.p, nil, -1); e != c.e || r.Steps != 0 || r.End != api.OK {
			t.Errorf("%d: Run = %v, %v, want %v", i, r, e, c.e)
		}
		if p, n, e := lifetime.Elide(c.p); e != c.e || n != 0 || p.Classes != nil || p.Vars != nil || p.Body != nil {
			t.Errorf("%d: Elide = %v, %d, %v, want %v", i, p, n, e, c.e)
		}
		if s, e := lifetime.Text(c.p); e != c.e || s != "" {
			t.Errorf("%d: Text = %q, %v, want %v", i, s, e, c.e)
		}
	}
}

func TestAcyclic(t *testing.T) {
	class := func(l ...lifetime.Field) []lifetime.Field { return l }
	const owned, shared, unmanaged = lifetime.Owned, lifetime.Shared, lifetime.Unmanaged
	for i, c := range []struct {
		p    lifetime.Program
		want bool
	}{
		{lifetime.Program{}, true},
		{lifetime.Program{Classes: [][]lifetime.Field{class(lifetime.Field{owned, 0})}}, false},
		{lifetime.Program{Classes: [][]lifetime.Field{class(lifetime.Field{shared, 0})}}, false},
		{lifetime.Program{Classes: [][]lifetime.Field{class(lifetime.Field{unmanaged, 0})}}, true},
		{lifetime.Program{Classes: [][]lifetime.Field{class(lifetime.Field{owned, 1}, lifetime.Field{shared, 2}), class(lifetime.Field{owned, 2}), nil}}, true},
		{lifetime.Program{Classes: [][]lifetime.Field{class(lifetime.Field{owned, 1}), class(lifetime.Field{shared, 2}), class(lifetime.Field{owned, 1})}}, false},
		{lifetime.Program{Classes: [][]lifetime.Field{class(lifetime.Field{owned, 1}), class(lifetime.Field{unmanaged, 0})}}, true},
		{lifetime.Program{Classes: [][]lifetime.Field{class(lifetime.Field{owned, 1})}}, false},
		{lifetime.Program{Classes: [][]lifetime.Field{class(lifetime.Field{lifetime.Borrowed, 0})}}, false},
		{lifetime.Program{Classes: [][]lifetime.Field{class(lifetime.Field{0, 1}), nil}}, false},
		{lifetime.Program{Classes: [][]lifetime.Field{class(lifetime.Field{5, 1}), nil}}, false},
		{lifetime.Program{Classes: [][]lifetime.Field{class(lifetime.Field{owned, 2}), nil}}, false},
		{lifetime.Program{Classes: make([][]lifetime.Field, 1), Vars: []lifetime.Var{{5, 0, true}}}, false},
		{lifetime.Program{Classes: make([][]lifetime.Field, 1), Vars: []lifetime.Var{{owned, -1, true}}}, false},
		{lifetime.Program{Classes: make([][]lifetime.Field, 9)}, false},
		{lifetime.Program{Classes: make([][]lifetime.Field, 8), Vars: make([]lifetime.Var, 1)}, false},
		{lifetime.Program{Classes: make([][]lifetime.Field, 8), Vars: []lifetime.Var{{owned, 7, true}}}, true},
		{lifetime.Program{Classes: make([][]lifetime.Field, 8), Vars: make([]lifetime.Var, 21)}, false},
		{lifetime.Program{Body: make([]stmt, 300)}, true},
		{lifetime.Program{Body: []stmt{{Op: 99}}}, true},
	} {
		if got := lifetime.Acyclic(c.p); got != c.want {
			t.Errorf("%d: Acyclic = %v", i, got)
		}
	}
}

func TestText(t *testing.T) {
	p := world(in([]stmt{
		do(lifetime.New, own0),
		do(lifetime.Load, borrow1n, own0, 0),
		do(lifetime.Store, own0, own1n, 0),
		do(lifetime.Take, own1n, own0, 0),
		{Op: lifetime.Test, A: borrow1n, Kids: []stmt{do(lifetime.Use, borrow1n)}, Else: []stmt{{Op: lifetime.Loop, Kids: []stmt{do(lifetime.Clear, own1n)}}}},
		{Op: lifetime.Either, Else: []stmt{do(lifetime.Move, own1n, own1)}},
		{Op: lifetime.Either, Kids: []stmt{do(lifetime.Copy, shared0, shared0n)}},
		do(lifetime.Borrow, borrow0, raw0), do(lifetime.Free, raw0),
	}, own0, borrow1n, own1n, own1, shared0, shared0n, borrow0, raw0)...)
	p.Vars = p.Vars[:12]
	p.Vars = append(p.Vars, lifetime.Var{Kind: lifetime.Borrowed, Class: 1, Nilable: true})
	want := `class 0 owned 1 shared 1 unmanaged 0 owned 0
class 1
var 0 owned 0 nilable
var 1 owned 0
var 2 shared 0 nilable
var 3 shared 0
var 4 borrowed 0 nilable
var 5 borrowed 0
var 6 unmanaged 0 nilable
var 7 unmanaged 0
var 8 owned 1 nilable
var 9 owned 1
var 10 shared 1 nilable
var 11 shared 1
var 12 borrowed 1 nilable
`
	around := ""
	for i, v := range []string{"1", "12", "8", "9", "3", "2", "5", "7"} {
		around += strings.Repeat("  ", i) + "scope " + v + "\n"
	}
	for _, line := range []string{"new 1", "load 12 1 0", "store 1 0 8", "take 8 1 0", "test 12", "  use 12", "else", "  loop", "    clear 8", "either", "else", "  move 8 9", "either", "  copy 3 2", "borrow 5 7", "free 7"} {
		around += strings.Repeat("  ", 8) + line + "\n"
	}
	if got, e := lifetime.Text(p); got != want+around || e != api.OK {
		t.Errorf("Text = %s, %v, want %s", got, e, want+around)
	}
	if got, e := lifetime.Text(lifetime.Program{}); got != "" || e != api.OK {
		t.Errorf("Text of nothing = %q, %v", got, e)
	}
}
