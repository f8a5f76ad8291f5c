package lifetime_test

import (
	"reflect"
	"slices"
	"testing"

	"raddle/api"
	"raddle/lifetime"
)

// TestRun asks for results of runs by hand.
func TestRun(t *testing.T) {
	const newOp, move, copyOp, borrow, load, store, take, clearOp, free, use, test, either, loop = lifetime.New, lifetime.Move, lifetime.Copy, lifetime.Borrow, lifetime.Load, lifetime.Store, lifetime.Take, lifetime.Clear, lifetime.Free, lifetime.Use, lifetime.Test, lifetime.Either, lifetime.Loop
	if1 := func(a int, kids, other []stmt) stmt { return stmt{Op: test, A: a, Kids: kids, Else: other} }
	one := func(s ...stmt) []stmt { return s }
	for i, c := range []struct {
		body    []stmt
		choices []bool
		want    lifetime.Result
	}{
		{nil, nil, lifetime.Result{}},
		// owned variables
		{in(one(do(newOp, own0), do(use, own0)), own0), nil, lifetime.Result{Steps: 3, Uses: []int{1}, Deleted: []int{1}, Made: 1}},
		{in(one(do(newOp, own0), do(newOp, own0), do(use, own0)), own0), nil, lifetime.Result{Steps: 4, Uses: []int{2}, Deleted: []int{1, 2}, Made: 2}},
		{in(one(do(newOp, own0), do(move, own0n, own0), do(use, own0n), do(use, own0)), own0, own0n), nil, lifetime.Result{End: lifetime.ErrMoved, Steps: 6, Uses: []int{1}, Made: 1, Left: 1}},
		{in(one(do(newOp, own0), do(newOp, own0n), do(move, own0n, own0), do(clearOp, own0n)), own0, own0n), nil, lifetime.Result{Steps: 6, Deleted: []int{2, 1}, Made: 2}},
		{in(one(do(use, own0)), own0), nil, lifetime.Result{End: lifetime.ErrNil, Steps: 2}},
		{in(one(do(use, own0n)), own0n), nil, lifetime.Result{End: lifetime.ErrNil, Steps: 2}},
		{in(one(do(move, own0n, own0)), own0n, own0), nil, lifetime.Result{End: lifetime.ErrNil, Steps: 3}},
		{in(one(do(move, own0, own0n)), own0n, own0), nil, lifetime.Result{End: lifetime.ErrNil, Steps: 3}},
		{in(one(do(move, own1n, other1n), do(move, own1n, other1n)), own1n, other1n), nil, lifetime.Result{End: lifetime.ErrMoved, Steps: 4}},
		{in(one(do(newOp, own0), do(move, own0n, own0), do(newOp, own0), do(use, own0)), own0, own0n), nil, lifetime.Result{Steps: 6, Uses: []int{2}, Deleted: []int{1, 2}, Made: 2}},
		// shared variables
		{in(one(do(newOp, shared0), do(copyOp, shared0n, shared0), do(use, shared0n)), shared0, shared0n), nil, lifetime.Result{Steps: 5, Uses: []int{1}, Deleted: []int{1}, Made: 1, Updates: 3}},
		{in(one(do(newOp, shared0), do(move, shared0n, shared0), do(use, shared0n)), shared0, shared0n), nil, lifetime.Result{Steps: 5, Uses: []int{1}, Deleted: []int{1}, Made: 1, Updates: 1}},
		{in(one(do(newOp, own0), do(move, shared0, own0), do(copyOp, shared0n, shared0), do(clearOp, shared0n), do(use, shared0)), own0, shared0, shared0n), nil, lifetime.Result{Steps: 8, Uses: []int{1}, Deleted: []int{1}, Made: 1, Updates: 3}},
		{in(one(do(copyOp, shared0n, shared0)), shared0, shared0n), nil, lifetime.Result{End: lifetime.ErrNil, Steps: 3}},
		{in(one(do(copyOp, shared1n, others1n), do(test, shared1n)), shared1n, others1n), nil, lifetime.Result{Steps: 4}},
		{in(one(do(newOp, shared0), do(copyOp, shared0n, shared0), do(copyOp, shared0n, shared0)), shared0, shared0n), nil, lifetime.Result{Steps: 5, Deleted: []int{1}, Made: 1, Updates: 5}},
		// borrowed variables
		{in(one(do(newOp, own0n), do(borrow, borrow0n, own0n), do(clearOp, own0n), do(use, borrow0n)), own0n, borrow0n), nil, lifetime.Result{End: lifetime.ErrDead, Steps: 6, Deleted: []int{1}, Made: 1}},
		{in(one(do(newOp, shared0n), do(borrow, borrow0, shared0n), do(clearOp, shared0n), do(copyOp, borrow0n, borrow0)), shared0n, borrow0n, borrow0), nil, lifetime.Result{End: lifetime.ErrDead, Steps: 7, Deleted: []int{1}, Made: 1, Updates: 1}},
		{in(one(do(borrow, borrow0, own0n)), own0n, borrow0), nil, lifetime.Result{End: lifetime.ErrNil, Steps: 3}},
		{in(one(do(borrow, borrow0n, own0n), do(use, borrow0n)), own0n, borrow0n), nil, lifetime.Result{End: lifetime.ErrNil, Steps: 4}},
		// fields
		{in(one(do(newOp, own0), do(newOp, own1), do(store, own0, own1, 0), do(load, borrow1n, own0, 0), do(use, borrow1n), do(use, own1)), own0, own1, borrow1n), nil, lifetime.Result{End: lifetime.ErrMoved, Steps: 9, Uses: []int{2}, Made: 2, Left: 2}},
		{in(one(do(newOp, own0), do(newOp, own1), do(store, own0, own1, 0), do(newOp, own1), do(store, own0, own1, 0)), own0, own1), nil, lifetime.Result{Steps: 7, Deleted: []int{2, 1, 3}, Made: 3}},
		{in(one(do(newOp, own0), do(newOp, own1), do(store, own0, own1, 0), do(take, own1n, own0, 0), do(load, borrow1n, own0, 0), do(use, own1n), do(use, borrow1n)), own0, own1, own1n, borrow1n), nil, lifetime.Result{End: lifetime.ErrNil, Steps: 11, Uses: []int{2}, Made: 2, Left: 2}},
		{in(one(do(newOp, own0), do(newOp, shared1), do(store, own0, shared1, 1), do(load, shared1n, own0, 1), do(load, borrow1n, own0, 1), do(clearOp, shared1n), do(use, borrow1n)), own0, shared1, shared1n, borrow1n), nil, lifetime.Result{Steps: 11, Uses: []int{2}, Deleted: []int{1, 2}, Made: 2, Updates: 5}},
		{in(one(do(store, own0, own1, 0)), own0, own1), nil, lifetime.Result{End: lifetime.ErrNil, Steps: 3}},
		{in(one(do(newOp, own0), do(store, own0, own1n, 0), do(use, own1n)), own0, own1n), nil, lifetime.Result{End: lifetime.ErrMoved, Steps: 5, Made: 1, Left: 1}},
		{in(one(do(newOp, own0), do(store, own0, own1, 0)), own0, own1), nil, lifetime.Result{End: lifetime.ErrNil, Steps: 4, Made: 1, Left: 1}},
		{in(one(do(load, borrow1n, own0, 0)), own0, borrow1n), nil, lifetime.Result{End: lifetime.ErrNil, Steps: 3}},
		// an object that owns itself
		{in(one(do(newOp, own0), do(borrow, borrow0, own0), do(store, own0, own0, 3), do(use, borrow0)), own0, borrow0), nil, lifetime.Result{Steps: 6, Uses: []int{1}, Made: 1, Left: 1}},
		{in(one(do(newOp, own0), do(borrow, borrow0, own0), do(store, own0, own0, 3), do(take, own0n, borrow0, 3), do(use, own0n)), own0, borrow0, own0n), nil, lifetime.Result{Steps: 8, Uses: []int{1}, Deleted: []int{1}, Made: 1}},
		{in(one(do(newOp, own0n), do(newOp, own0), do(store, own0n, own0, 3), do(take, own0n, own0n, 3), do(use, own0n)), own0, own0n), nil, lifetime.Result{Steps: 7, Uses: []int{2}, Deleted: []int{1, 2}, Made: 2}},
		{in(one(do(newOp, own0), do(borrow, borrow0, own0), do(store, own0, own0, 3), do(newOp, own0n), do(store, borrow0, own0n, 3), do(use, borrow0)), own0, own0n, borrow0), nil, lifetime.Result{End: lifetime.ErrDead, Steps: 9, Deleted: []int{1}, Made: 2, Left: 1}},
		// unmanaged ones
		{in(one(do(newOp, raw0), do(copyOp, raw0n, raw0), do(free, raw0), do(use, raw0n)), raw0, raw0n), nil, lifetime.Result{End: lifetime.ErrDead, Steps: 6, Deleted: []int{1}, Made: 1}},
		{in(one(do(newOp, raw0), do(free, raw0), do(free, raw0)), raw0), nil, lifetime.Result{End: lifetime.ErrDead, Steps: 4, Deleted: []int{1}, Made: 1}},
		{in(one(do(newOp, raw0), do(newOp, raw0)), raw0), nil, lifetime.Result{Steps: 3, Made: 2, Left: 2}},
		{in(one(do(newOp, raw0), do(newOp, own1), do(store, raw0, own1, 0), do(store, raw0, raw0, 2), do(load, raw0n, raw0, 2), do(free, raw0n)), raw0, raw0n, own1), nil, lifetime.Result{Steps: 9, Deleted: []int{1, 2}, Made: 2}},
		{in(one(do(free, raw0n)), raw0n), nil, lifetime.Result{End: lifetime.ErrNil, Steps: 2}},
		// Test, Either, Loop
		{in(one(if1(own0n, one(do(use, own0n)), one(do(newOp, own0n))), if1(own0n, one(do(use, own0n)), nil)), own0n), nil, lifetime.Result{Steps: 5, Uses: []int{1}, Deleted: []int{1}, Made: 1}},
		{in(one(if1(own0, nil, nil)), own0), nil, lifetime.Result{End: lifetime.ErrNil, Steps: 2}},
		{in(one(do(newOp, own0), stmt{Op: either, Kids: one(do(use, own0)), Else: one(do(newOp, own0))}), own0), []bool{true}, lifetime.Result{Steps: 4, Uses: []int{1}, Deleted: []int{1}, Made: 1}},
		{in(one(do(newOp, own0), stmt{Op: either, Kids: one(do(use, own0)), Else: one(do(newOp, own0))}), own0), []bool{false, true}, lifetime.Result{Steps: 4, Deleted: []int{1, 2}, Made: 2}},
		{in(one(do(newOp, own0), stmt{Op: either, Kids: one(do(use, own0)), Else: one(do(newOp, own0))}), own0), nil, lifetime.Result{Steps: 4, Deleted: []int{1, 2}, Made: 2}},
		{in(one(do(newOp, own0), stmt{Op: loop, Kids: one(do(use, own0), stmt{Op: either, Kids: one(do(newOp, own0))})}), own0), []bool{true, false, true, true, true}, lifetime.Result{Steps: 10, Uses: []int{1, 1, 2}, Deleted: []int{1, 2}, Made: 2}},
		{[]stmt{{Op: loop}}, []bool{true, true, false}, lifetime.Result{Steps: 1}},
	} {
		r, e := lifetime.Run(world(c.body...), c.choices, lifetime.MaxFuel)
		if e != api.OK || !equal(r, c.want) {
			t.Errorf("%d: Run = %+v, %v, want %+v", i, r, e, c.want)
		}
		if r, _ := lifetime.Run(world(c.body...), c.choices, c.want.Steps); !equal(r, c.want) {
			t.Errorf("%d: Run with just enough fuel = %+v, want %+v", i, r, c.want)
		}
		if c.want.Steps > 0 {
			r, _ := lifetime.Run(world(c.body...), c.choices, c.want.Steps-1)
			if r.End != api.ErrFuel || r.Steps != c.want.Steps-1 {
				t.Errorf("%d: Run with too little fuel = %+v", i, r)
			}
		}
	}
}

func equal(a, b lifetime.Result) bool {
	if !slices.Equal(a.Uses, b.Uses) || !slices.Equal(a.Deleted, b.Deleted) {
		return false
	}
	a.Uses, a.Deleted, b.Uses, b.Deleted = nil, nil, nil, nil
	return reflect.DeepEqual(a, b)
}

func TestRunFuel(t *testing.T) {
	p := world(in([]stmt{do(lifetime.New, own0)}, own0)...)
	for fuel, want := range map[int]api.Errno{-1: api.ErrRange, 5001: api.ErrRange, 0: api.OK, 5000: api.OK} {
		r, e := lifetime.Run(p, nil, fuel)
		if e != want || e != api.OK && !equal(r, lifetime.Result{}) {
			t.Errorf("Run with the fuel %d = %+v, %v, want %v", fuel, r, e, want)
		}
	}
	if r, _ := lifetime.Run(p, nil, 0); !equal(r, lifetime.Result{End: api.ErrFuel}) {
		t.Errorf("Run without fuel = %+v", r)
	}
	if r, _ := lifetime.Run(p, nil, 1); !equal(r, lifetime.Result{End: api.ErrFuel, Steps: 1}) {
		t.Errorf("Run with little fuel = %+v", r)
	}
}

// TestLongChain deletes many objects that own each other at once.
func TestLongChain(t *testing.T) {
	body := in([]stmt{do(lifetime.New, own0n), {Op: lifetime.Loop, Kids: []stmt{
		do(lifetime.New, own0), do(lifetime.Store, own0, own0n, 3), do(lifetime.Move, own0n, own0),
	}}, do(lifetime.Clear, own0n)}, own0n, own0)
	choices := slices.Repeat([]bool{true}, 1500)
	r, e := lifetime.Run(world(body...), choices, lifetime.MaxFuel)
	if e != api.OK || r.End != api.OK || r.Made != 1501 || r.Left != 0 || r.Deleted[0] != 1501 || r.Deleted[1500] != 1 {
		t.Errorf("Run = %d made, %d left, %v, %v", r.Made, r.Left, r.End, e)
	}
}
