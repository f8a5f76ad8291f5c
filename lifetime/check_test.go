package lifetime_test

import (
	"slices"
	"testing"

	"raddle/api"
	"raddle/lifetime"
)

// TestCheck asks for the first statement that may fail, by hand. The body stands in scopes of all variables that are listed, so that the paths of statements begin with as many zeros.
func TestCheck(t *testing.T) {
	const newOp, move, copyOp, borrow, load, store, take, clearOp, free, use, test, either, loop = lifetime.New, lifetime.Move, lifetime.Copy, lifetime.Borrow, lifetime.Load, lifetime.Store, lifetime.Take, lifetime.Clear, lifetime.Free, lifetime.Use, lifetime.Test, lifetime.Either, lifetime.Loop
	one := func(s ...stmt) []stmt { return s }
	vars := func(l ...int) []int { return l }
	for i, c := range []struct {
		vars []int
		body []stmt
		path []int
		e    api.Errno
	}{
		// the example of the chapter
		{vars(own0n), one(do(newOp, own0n), stmt{Op: lifetime.Scope, A: borrow0n, Kids: one(do(borrow, borrow0n, own0n), do(clearOp, own0n), do(use, borrow0n))}), []int{1, 2}, lifetime.ErrDead},
		{vars(own0), one(do(newOp, own0), do(use, own0)), nil, api.OK},
		{vars(own0), one(do(use, own0)), []int{0}, lifetime.ErrNil},
		{vars(own0n), one(do(use, own0n)), []int{0}, lifetime.ErrNil},
		{vars(own0, own0n), one(do(newOp, own0), do(move, own0n, own0), do(use, own0n), do(use, own0)), []int{3}, lifetime.ErrMoved},
		{vars(own0, own0n), one(do(newOp, own0), do(move, own0n, own0), do(newOp, own0), do(use, own0)), nil, api.OK},
		{vars(own0, own0n), one(do(move, own0n, own0)), []int{0}, lifetime.ErrNil},
		{vars(own0, own0n), one(do(move, own0, own0n)), []int{0}, lifetime.ErrNil},
		{vars(own1n, other1n), one(do(move, own1n, other1n), do(use, own1n)), []int{1}, lifetime.ErrNil},
		// Test
		{vars(own0n), one(stmt{Op: test, A: own0n, Kids: one(do(use, own0n)), Else: one(do(use, own0n))}), []int{0, 1000}, lifetime.ErrNil},
		{vars(own0n), one(stmt{Op: test, A: own0n, Else: one(do(newOp, own0n))}, do(use, own0n)), nil, api.OK},
		{vars(own0), one(stmt{Op: test, A: own0}), []int{0}, lifetime.ErrNil},
		{vars(own0n, own0), one(do(newOp, own0n), do(move, own0, own0n), stmt{Op: test, A: own0n}), []int{2}, lifetime.ErrMoved},
		{vars(own0n), one(do(newOp, own0n), stmt{Op: test, A: own0n, Kids: one(do(clearOp, own0n))}, do(use, own0n)), []int{2}, lifetime.ErrNil},
		// borrowed variables
		{vars(own0n, borrow0n), one(do(newOp, own0n), do(borrow, borrow0n, own0n), do(use, borrow0n), do(newOp, own0n), do(use, borrow0n)), []int{4}, lifetime.ErrDead},
		{vars(borrow0n, own0), one(do(newOp, own0), do(borrow, borrow0n, own0)), nil, api.OK},
		{vars(borrow0n), one(stmt{Op: lifetime.Scope, A: own0, Kids: one(do(newOp, own0), do(borrow, borrow0n, own0))}, do(use, borrow0n)), []int{1}, lifetime.ErrDead},
		{vars(own0, own0n, borrow0), one(do(newOp, own0), do(borrow, borrow0, own0), do(move, own0n, own0), do(use, borrow0)), []int{3}, lifetime.ErrDead},
		{vars(own0, shared0, borrow0), one(do(newOp, own0), do(borrow, borrow0, own0), do(move, shared0, own0), do(use, borrow0)), []int{3}, lifetime.ErrDead},
		{vars(shared0, shared0n, borrow0), one(do(newOp, shared0), do(copyOp, shared0n, shared0), do(borrow, borrow0, shared0), do(clearOp, shared0n), do(use, borrow0)), nil, api.OK},
		{vars(shared0, shared0n, borrow0), one(do(newOp, shared0n), do(borrow, borrow0, shared0n), do(copyOp, shared0, shared0n), do(clearOp, shared0n), do(use, borrow0)), []int{4}, lifetime.ErrDead},
		{vars(own0, borrow0, borrow0n), one(do(newOp, own0), do(borrow, borrow0, own0), do(copyOp, borrow0n, borrow0), do(newOp, own0), do(use, borrow0n)), []int{4}, lifetime.ErrDead},
		{vars(own0, own0n, borrow0, borrow0n), one(do(newOp, own0), do(newOp, own0n), do(borrow, borrow0, own0), do(borrow, borrow0n, own0n), do(copyOp, borrow0, borrow0n), do(newOp, own0), do(use, borrow0)), nil, api.OK},
		{vars(own0, borrow0n), one(do(newOp, own0), do(borrow, borrow0n, own0), do(clearOp, borrow0n), do(newOp, own0), do(use, borrow0n)), []int{4}, lifetime.ErrNil},
		{vars(raw0, borrow0), one(do(newOp, raw0), do(borrow, borrow0, raw0), do(free, raw0), do(use, borrow0)), nil, api.OK},
		// fields
		{vars(own0, own1, borrow1n), one(do(newOp, own0), do(newOp, own1), do(store, own0, own1, 0), do(load, borrow1n, own0, 0), do(use, borrow1n)), []int{4}, lifetime.ErrNil},
		{vars(own0, own1, borrow1n), one(do(newOp, own0), do(newOp, own1), do(load, borrow1n, own0, 0), do(store, own0, own1, 0), do(copyOp, borrow1, borrow1n)), []int{}, lifetime.ErrScope},
		{vars(own0, own1, borrow1n), one(do(newOp, own0), do(newOp, own1), do(load, borrow1n, own0, 0), do(store, own0, own1, 0), do(use, borrow1n)), []int{4}, lifetime.ErrDead},
		{vars(own0, shared1, borrow1n), one(do(newOp, own0), do(newOp, shared1), do(load, borrow1n, own0, 0), do(store, own0, shared1, 1), stmt{Op: test, A: borrow1n, Kids: one(do(use, borrow1n))}), nil, api.OK},
		{vars(own0, shared1, borrow1n), one(do(newOp, own0), do(newOp, shared1), do(load, borrow1n, own0, 1), do(store, own0, shared1, 1), stmt{Op: test, A: borrow1n}), []int{4}, lifetime.ErrDead},
		{vars(own0, borrow1n), one(do(newOp, own0), do(load, borrow1n, own0, 0), do(newOp, own0), stmt{Op: test, A: borrow1n}), []int{3}, lifetime.ErrDead},
		{vars(own0, own1n, borrow1n), one(do(newOp, own0), do(load, borrow1n, own0, 0), do(take, own1n, own0, 0), stmt{Op: test, A: borrow1n}), []int{3}, lifetime.ErrDead},
		{vars(own0, own1n, borrow1n), one(do(newOp, own0), do(load, borrow1n, own0, 1), do(take, own1n, own0, 0), stmt{Op: test, A: borrow1n}), nil, api.OK},
		{vars(own0, borrow0n, borrow1n), one(do(newOp, own0), do(load, borrow0n, own0, 3), stmt{Op: test, A: borrow0n, Kids: one(do(load, borrow1n, borrow0n, 0), do(newOp, own0), stmt{Op: test, A: borrow1n})}), []int{2, 2}, lifetime.ErrDead},
		{vars(own0, borrow0n, borrow1n, own0n), one(do(newOp, own0), do(newOp, own0n), do(load, borrow0n, own0, 3), stmt{Op: test, A: borrow0n, Kids: one(do(load, borrow1n, borrow0n, 0), do(store, own0, own0n, 3), stmt{Op: test, A: borrow1n})}), []int{3, 2}, lifetime.ErrDead},
		{vars(own0n, borrow0n, own0, own1n), one(do(newOp, own0n), do(borrow, borrow0n, own0n), do(newOp, own0), do(take, own1n, own0, 0), do(use, borrow0n)), nil, api.OK},
		{vars(own0n, borrow0n, own0, own1n), one(do(newOp, own0n), do(borrow, borrow0n, own0n), do(newOp, own0), do(store, own0, own1n, 0), do(use, borrow0n)), nil, api.OK},
		{vars(own0, own1), one(do(store, own0, own1, 0)), []int{0}, lifetime.ErrNil},
		{vars(own0, own1, own1n), one(do(newOp, own0), do(newOp, own1), do(store, own0, own1, 0), do(store, own0, own1, 0)), []int{3}, lifetime.ErrMoved},
		{vars(own0, own1n), one(do(newOp, own0), do(store, own0, own1n, 0)), nil, api.OK},
		{vars(own0, own1), one(do(newOp, own0), do(store, own0, own1, 0)), []int{1}, lifetime.ErrNil},
		{vars(own0n, own1n), one(do(take, own1n, own0n, 0)), []int{0}, lifetime.ErrNil},
		{vars(own0, shared1n), one(do(newOp, own0), do(load, shared1n, own0, 1), do(use, shared1n)), []int{2}, lifetime.ErrNil},
		{vars(raw0, raw0n), one(do(newOp, raw0), do(load, raw0n, raw0, 2), do(store, raw0, raw0n, 2), do(free, raw0), do(use, raw0)), []int{4}, lifetime.ErrDead},
		{vars(raw0n), one(do(free, raw0n)), []int{0}, lifetime.ErrNil},
		{vars(raw0, raw0n), one(do(newOp, raw0), do(copyOp, raw0n, raw0), do(free, raw0), do(use, raw0n)), nil, api.OK},
		// Either and Loop
		{vars(own0), one(stmt{Op: either, Kids: one(do(newOp, own0))}, do(use, own0)), []int{1}, lifetime.ErrNil},
		{vars(own0), one(stmt{Op: either, Kids: one(do(newOp, own0)), Else: one(do(newOp, own0))}, do(use, own0)), nil, api.OK},
		{vars(own0, own0n), one(do(newOp, own0), stmt{Op: either, Kids: one(do(move, own0n, own0))}, do(use, own0)), []int{2}, lifetime.ErrMoved},
		{vars(own0, own0n), one(do(newOp, own0), stmt{Op: loop, Kids: one(do(use, own0), do(move, own0n, own0))}), []int{1, 0}, lifetime.ErrMoved},
		{vars(own0, own0n), one(do(newOp, own0), stmt{Op: loop, Kids: one(do(move, own0n, own0), do(newOp, own0))}, do(use, own0)), nil, api.OK},
		{vars(own0), one(stmt{Op: loop, Kids: one(do(newOp, own0))}, do(use, own0)), []int{1}, lifetime.ErrNil},
		{vars(own0, borrow0n), one(do(newOp, own0), stmt{Op: loop, Kids: one(stmt{Op: test, A: borrow0n}, do(borrow, borrow0n, own0), do(newOp, own0))}), []int{1, 0}, lifetime.ErrDead},
		{vars(own0, own0n, borrow0), one(do(newOp, own0), do(borrow, borrow0, own0), stmt{Op: loop, Kids: one(do(use, borrow0), stmt{Op: loop, Kids: one(stmt{Op: either, Kids: one(do(move, own0n, own0), do(newOp, own0))})})}), []int{2, 0}, lifetime.ErrDead},
		// the order of errors of one variable, and of statements
		{vars(own0, own0n), one(do(newOp, own0), stmt{Op: either, Kids: one(do(move, own0n, own0)), Else: one(do(clearOp, own0n))}, do(use, own0n)), []int{2}, lifetime.ErrNil},
		{vars(own0, own0n, own1n, borrow0n), one(do(newOp, own0), do(borrow, borrow0n, own0), stmt{Op: either, Kids: one(do(newOp, own0)), Else: one(do(clearOp, borrow0n))}, do(use, borrow0n)), []int{3}, lifetime.ErrDead},
		{vars(own0n, own0), one(stmt{Op: either, Kids: one(do(move, own0, own0n))}, do(use, own0n)), []int{0, 0}, lifetime.ErrNil},
		{vars(own1n, other1n), one(stmt{Op: either, Kids: one(do(move, own1n, other1n))}, do(use, other1n)), []int{1}, lifetime.ErrMoved},
		{vars(own0, own0n), one(stmt{Op: either, Kids: one(do(use, own0n)), Else: one(do(use, own0))}), []int{0, 0}, lifetime.ErrNil},
		// behind an error it goes on
		{vars(own0, own0n), one(stmt{Op: loop, Kids: one(do(newOp, own0n), do(use, own0n), do(move, own0n, own0), do(use, own0n))}), []int{0, 2}, lifetime.ErrMoved},
	} {
		p := world(in(c.body, c.vars...)...)
		var want []int
		if c.path != nil && c.e != lifetime.ErrScope {
			want = append(make([]int, len(c.vars)), c.path...)
		} else if c.path != nil {
			want = []int{0, 0, 0, 4}
		}
		if path, e := lifetime.Check(p); !slices.Equal(path, want) || e != c.e {
			t.Errorf("%d: Check = %v, %v, want %v, %v", i, path, e, want, c.e)
		}
	}
}

// TestLastField asks for what hangs on the last field of the last class.
func TestLastField(t *testing.T) {
	p := lifetime.Program{Classes: make([][]lifetime.Field, 8), Vars: []lifetime.Var{{Kind: lifetime.Owned, Class: 7}, {Kind: lifetime.Borrowed, Class: 7, Nilable: true}, {Kind: lifetime.Owned, Class: 7}}}
	p.Classes[7] = slices.Repeat([]lifetime.Field{{Kind: lifetime.Owned, Class: 7}}, 8)
	for f, want := range map[int]api.Errno{7: lifetime.ErrDead, 6: api.OK} {
		p.Body = in([]stmt{do(lifetime.New, 0), do(lifetime.New, 2), do(lifetime.Load, 1, 0, 7), do(lifetime.Store, 0, 2, f), do(lifetime.Test, 1)}, 0, 1, 2)
		if path, e := lifetime.Check(p); e != want {
			t.Errorf("the field %d: Check = %v, %v, want %v", f, path, e, want)
		}
	}
}

// TestElide asks which Copies become Moves.
func TestElide(t *testing.T) {
	const newOp, move, copyOp, use = lifetime.New, lifetime.Move, lifetime.Copy, lifetime.Use
	for i, c := range []struct {
		body, want []stmt
		n          int
	}{
		{[]stmt{do(newOp, shared0), do(copyOp, shared0n, shared0), do(use, shared0n)}, []stmt{do(newOp, shared0), do(move, shared0n, shared0), do(use, shared0n)}, 1},
		{[]stmt{do(newOp, shared0), do(copyOp, shared0n, shared0), do(use, shared0)}, []stmt{do(newOp, shared0), do(copyOp, shared0n, shared0), do(use, shared0)}, 0},
		{[]stmt{do(newOp, shared0), do(copyOp, shared0n, shared0), do(copyOp, shared0, shared0n), do(use, shared0)}, []stmt{do(newOp, shared0), do(move, shared0n, shared0), do(move, shared0, shared0n), do(use, shared0)}, 2},
		{[]stmt{do(newOp, shared0), do(copyOp, shared0n, shared0), do(copyOp, shared0n, shared0)}, []stmt{do(newOp, shared0), do(copyOp, shared0n, shared0), do(move, shared0n, shared0)}, 1},
		{[]stmt{do(newOp, shared0), {Op: lifetime.Either, Kids: []stmt{do(copyOp, shared0n, shared0)}, Else: []stmt{do(use, shared0)}}}, []stmt{do(newOp, shared0), {Op: lifetime.Either, Kids: []stmt{do(move, shared0n, shared0)}, Else: []stmt{do(use, shared0)}}}, 1},
		{[]stmt{do(newOp, shared0), {Op: lifetime.Loop, Kids: []stmt{do(copyOp, shared0n, shared0)}}}, []stmt{do(newOp, shared0), {Op: lifetime.Loop, Kids: []stmt{do(copyOp, shared0n, shared0)}}}, 0},
		{[]stmt{do(newOp, shared0), {Op: lifetime.Test, A: shared0, Else: []stmt{do(copyOp, shared0n, shared0)}}}, []stmt{do(newOp, shared0), {Op: lifetime.Test, A: shared0, Else: []stmt{do(move, shared0n, shared0)}}}, 1},
		{[]stmt{do(newOp, raw0), do(copyOp, raw0n, raw0)}, []stmt{do(newOp, raw0), do(copyOp, raw0n, raw0)}, 0},
		{[]stmt{do(newOp, own0), do(lifetime.Borrow, borrow0, own0), do(copyOp, borrow0n, borrow0)}, []stmt{do(newOp, own0), do(lifetime.Borrow, borrow0, own0), do(copyOp, borrow0n, borrow0)}, 0},
	} {
		p := world(all(c.body...)...)
		before, _ := lifetime.Text(p)
		got, n, e := lifetime.Elide(p)
		text, _ := lifetime.Text(got)
		want, _ := lifetime.Text(world(all(c.want...)...))
		if text != want || n != c.n || e != api.OK {
			t.Errorf("%d: Elide = %s, %d, %v, want %s", i, text, n, e, want)
		}
		if after, _ := lifetime.Text(p); after != before {
			t.Errorf("%d: Elide has changed its argument", i)
		}
	}
	if p, n, e := lifetime.Elide(world(all(do(use, own0))...)); n != 0 || e != lifetime.ErrNil || p.Body != nil || p.Vars != nil || p.Classes != nil {
		t.Errorf("Elide of a program with an error = %v, %d, %v", p, n, e)
	}
}

// TestNestedLoops asks that deep loops take no long time.
func TestNestedLoops(t *testing.T) {
	body := []stmt{do(lifetime.Copy, shared0n, shared0), do(lifetime.Borrow, borrow0n, shared0n), do(lifetime.New, shared0)}
	for i := range 12 {
		body = []stmt{do(lifetime.Copy, shared0, shared0n), {Op: lifetime.Loop, Kids: append(body, do(lifetime.Copy, shared0n, shared0))}, do(lifetime.Load, []int{borrow1n, shared1n}[i%2], shared0, i%2)}
	}
	body = append([]stmt{do(lifetime.New, shared0), do(lifetime.New, shared0n)}, body...)
	if _, n, e := lifetime.Elide(world(in(body, shared0, shared0n, borrow0n, borrow1n, shared1n)...)); n != 2 || e != api.OK {
		t.Errorf("Elide = %d, %v", n, e)
	}
}
