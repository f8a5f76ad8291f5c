package lifetime_test

import (
	"math"
	"math/rand"
	"testing"

	"raddle/api"
	"raddle/lifetime"
)

// raw makes programs of any form.
type raw struct{ *rand.Rand }

func (r raw) number() int {
	return []int{0, 0, 1, 1, 2, 3, 4, 5, 7, 8, 19, 20, -1, math.MaxInt, math.MinInt}[r.Intn(15)]
}

func (r raw) block(depth int) []stmt {
	var l []stmt
	for range r.Intn(4) {
		s := stmt{Op: r.Intn(17) - 1, A: r.Intn(3), B: r.Intn(3)}
		if r.Intn(4) == 0 {
			s.A, s.B, s.F = r.number(), r.number(), r.number()
		}
		if depth > 0 {
			s.Kids = r.block(depth - 1)
			if r.Intn(3) == 0 {
				s.Else = r.block(depth - 1)
			}
		}
		l = append(l, s)
	}
	return l
}

func (r raw) program() lifetime.Program {
	p := lifetime.Program{Body: r.block(5)}
	for range r.Intn(4) {
		var l []lifetime.Field
		for range r.Intn(3) {
			l = append(l, lifetime.Field{Kind: r.Intn(5), Class: r.Intn(4) - 1})
		}
		p.Classes = append(p.Classes, l)
	}
	for range r.Intn(5) {
		p.Vars = append(p.Vars, lifetime.Var{Kind: 1 + r.Intn(5), Class: r.Intn(3), Nilable: r.Intn(2) == 0})
	}
	return p
}

// TestRaw asks that no function panics, and that all of them have the error of the form.
func TestRaw(t *testing.T) {
	r := raw{rand.New(rand.NewSource(18))}
	for range 30000 {
		p := r.program()
		path, want := lifetime.Form(p)
		if want == api.OK {
			if path != nil {
				t.Fatalf("Form has the path %v", path)
			}
			lifetime.Check(p)
			lifetime.Elide(p)
			continue
		}
		_, e1 := lifetime.Check(p)
		_, e2 := lifetime.Run(p, []bool{true}, 50)
		_, _, e3 := lifetime.Elide(p)
		_, e4 := lifetime.Text(p)
		if e1 != want || e2 != want || e3 != want || e4 != want {
			t.Fatalf("%v: %v, %v, %v, %v, want %v", p, e1, e2, e3, e4, want)
		}
		lifetime.Acyclic(p)
	}
}
