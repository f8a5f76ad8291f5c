package generic_test

import (
	"math"
	"slices"
	"strings"
	"testing"

	"raddle/api"
	"raddle/generic"
	"raddle/syntax"
)

// program reads a program.
func program(t *testing.T, text string) api.Program {
	t.Helper()
	p, at, e := syntax.Program("module M { " + text + " }")
	if e != api.OK {
		t.Fatalf("%q: %v at %d", text, e, at)
	}
	return p
}

// same reports whether programs are the same.
func same(a, b api.Program) bool {
	return syntax.Equal(modules(a), modules(b))
}

func modules(p api.Program) []syntax.Module {
	m := syntax.Module{Name: "M", Procs: p.Procs}
	for _, g := range p.Globals {
		m.Globals = append(m.Globals, syntax.Global{Var: g})
	}
	return []syntax.Module{m}
}

func of(kind string) generic.Argument { return generic.Argument{Type: kind} }

func typed(kind string) generic.Argument { return generic.Argument{Type: kind, IsType: true} }

func number(n int) generic.Argument {
	return generic.Argument{Type: "int", Value: []api.Node{{Op: api.Int, Num: n}}}
}

func truth(n int) generic.Argument {
	return generic.Argument{Type: "bool", Value: []api.Node{{Op: api.Bool, Num: n}}}
}

const candidates = `
proc f(x: int): int { }
proc f(x: ?t): t { }
proc f(x: ?t, y: ?t) { }
proc f(x: ?t, y: t) where true { }
proc g() { }
proc f(param n: int) { }
proc f(param n: int) where n > 2 { }
proc f(param n: ?t) where 2 > 1 { }
proc f(type t) { }
proc f(type t, x: t) { }
iter f(x: range): int { }
proc f(type t, type u) { }
proc f(param b: bool, x: int) where b { }
proc f(x: int, param n: int) where x > 1 { }
proc f(x: t): u { }
proc f(param n: int) where n { }
`

// TestCandidates asks why each of many procedures does not take arguments, and for their ranks.
func TestCandidates(t *testing.T) {
	p := program(t, candidates)
	indices := []int{0, 1, 2, 3, 5, 6, 7, 8, 9, 10, 11, 12, 13, 14, 15}
	ranks := []int{1, 3, 5, 4, 3, 2, 2, 3, 5, 1, 5, 2, 2, 3, 2}
	const count, kind, unknown, where = generic.WhyCount, generic.WhyType, generic.WhyParam, generic.WhyWhere
	for i, c := range []struct {
		l   []generic.Argument
		why []int
	}{
		{nil, slices.Repeat([]int{count}, 15)},
		{[]generic.Argument{of("int")}, []int{0, 0, count, count, unknown, unknown, unknown, kind, count, kind, count, count, count, 0, unknown}},
		{[]generic.Argument{number(2)}, []int{0, 0, count, count, 0, where, 0, kind, count, kind, count, count, count, 0, where}},
		{[]generic.Argument{number(3)}, []int{0, 0, count, count, 0, 0, 0, kind, count, kind, count, count, count, 0, where}},
		{[]generic.Argument{number(1)}, []int{0, 0, count, count, 0, where, 0, kind, count, kind, count, count, count, 0, where}},
		{[]generic.Argument{truth(1)}, []int{kind, 0, count, count, kind, kind, 0, kind, count, kind, count, count, count, 0, kind}},
		{[]generic.Argument{of("range")}, []int{kind, 0, count, count, kind, kind, unknown, kind, count, 0, count, count, count, 0, kind}},
		{[]generic.Argument{of("void")}, []int{kind, kind, count, count, kind, kind, kind, kind, count, kind, count, count, count, kind, kind}},
		{[]generic.Argument{typed("int")}, []int{kind, kind, count, count, kind, kind, kind, 0, count, kind, count, count, count, kind, kind}},
		{[]generic.Argument{of("int"), of("int")}, []int{count, count, 0, 0, count, count, count, count, kind, count, kind, kind, unknown, count, count}},
		{[]generic.Argument{of("int"), of("bool")}, []int{count, count, kind, kind, count, count, count, count, kind, count, kind, kind, kind, count, count}},
		{[]generic.Argument{typed("int"), of("int")}, []int{count, count, kind, kind, count, count, count, count, 0, count, kind, kind, kind, count, count}},
		{[]generic.Argument{typed("bool"), of("int")}, []int{count, count, kind, kind, count, count, count, count, kind, count, kind, kind, kind, count, count}},
		{[]generic.Argument{typed("bool"), typed("int")}, []int{count, count, kind, kind, count, count, count, count, kind, count, 0, kind, kind, count, count}},
		{[]generic.Argument{truth(1), of("int")}, []int{count, count, kind, kind, count, count, count, count, kind, count, kind, 0, kind, count, count}},
		{[]generic.Argument{truth(0), number(1)}, []int{count, count, kind, kind, count, count, count, count, kind, count, kind, where, kind, count, count}},
		{[]generic.Argument{number(5), number(1)}, []int{count, count, 0, 0, count, count, count, count, kind, count, kind, kind, where, count, count}},
	} {
		l, e := generic.Candidates(p, "f", c.l)
		if e != api.OK || len(l) != len(indices) {
			t.Fatalf("%d: Candidates = %v, %v", i, l, e)
		}
		for j, x := range l {
			if want := (generic.Candidate{Proc: indices[j], Why: c.why[j], Rank: ranks[j]}); x != want {
				t.Errorf("%d: candidate %d is %v, want %v", i, j, x, want)
			}
		}
		chosen(t, p, c.l, l)
	}
	if l, e := generic.Candidates(p, "h", nil); len(l) != 0 || e != api.OK {
		t.Errorf("Candidates of no name = %v, %v", l, e)
	}
	if l, e := generic.Candidates(p, "g", nil); !slices.Equal(l, []generic.Candidate{{Proc: 4, Rank: 1}}) || e != api.OK {
		t.Errorf("Candidates of g = %v, %v", l, e)
	}
}

// chosen asks P14.5: Choose returns the one candidate that takes arguments with the least rank.
func chosen(t *testing.T, p api.Program, l []generic.Argument, all []generic.Candidate) {
	t.Helper()
	var best []generic.Candidate
	for _, x := range all {
		switch {
		case x.Why != 0:
		case len(best) == 0 || x.Rank < best[0].Rank:
			best = []generic.Candidate{x}
		case x.Rank == best[0].Rank:
			best = append(best, x)
		}
	}
	want, code := 0, generic.ErrNone
	switch {
	case len(best) == 1:
		want, code = best[0].Proc, api.OK
	case len(best) > 1:
		code = generic.ErrAmbiguous
	}
	if got, e := generic.Choose(p, "f", l); got != want || e != code {
		t.Errorf("Choose(%v) = %d, %v, want %d, %v", l, got, e, want, code)
	}
}

// TestArgumentErrors asks for the errors of programs and arguments, in their order.
func TestArgumentErrors(t *testing.T) {
	p := program(t, "proc f(x: int) { } proc f(x: int) { }")
	wrong := api.Program{Globals: []api.Node{{}}}
	value := func(kind string, l ...api.Node) []generic.Argument {
		return []generic.Argument{{Type: kind, Value: l}}
	}
	one := api.Node{Op: api.Int, Num: 1}
	many := slices.Repeat([]generic.Argument{of("?")}, 21)
	for i, c := range []struct {
		p    api.Program
		l    []generic.Argument
		want api.Errno
	}{
		{wrong, many, api.ErrForm},
		{p, many, api.ErrCount},
		{p, many[:20], api.ErrArgument},
		{p, slices.Repeat([]generic.Argument{of("int")}, 20), generic.ErrNone},
		{p, []generic.Argument{of("")}, api.ErrArgument},
		{p, []generic.Argument{of("t")}, api.ErrArgument},
		{p, []generic.Argument{of("int bool")}, api.ErrArgument},
		{p, []generic.Argument{of("void")}, generic.ErrNone},
		{p, []generic.Argument{typed("void")}, api.ErrArgument},
		{p, []generic.Argument{typed("domain2")}, generic.ErrNone},
		{p, []generic.Argument{{Type: "int", IsType: true, Value: []api.Node{one}}}, api.ErrArgument},
		{p, value("int", one, one), api.ErrArgument},
		{p, value("bool", one), api.ErrArgument},
		{p, value("range", one), api.ErrArgument},
		{p, value("int", api.Node{Op: api.Bool, Num: 1}), api.ErrArgument},
		{p, value("bool", api.Node{Op: api.Bool, Num: 2}), api.ErrArgument},
		{p, value("int", api.Node{Op: api.Int, Name: "x"}), api.ErrArgument},
		{p, value("int", api.Node{Op: api.Name, Name: "x"}), api.ErrArgument},
		{p, value("int", api.Node{}), api.ErrArgument},
		{p, value("int", one), generic.ErrAmbiguous},
		{p, append(value("int", one), of("x")), api.ErrArgument},
	} {
		_, e := generic.Candidates(c.p, "f", c.l)
		if c.want >= generic.ErrNone && e != api.OK || c.want < generic.ErrNone && e != c.want {
			t.Errorf("%d: Candidates: %v, want %v", i, e, c.want)
		}
		if got, e := generic.Choose(c.p, "f", c.l); got != 0 || e != c.want {
			t.Errorf("%d: Choose = %d, %v, want %v", i, got, e, c.want)
		}
		if c.want < generic.ErrNone {
			if got, e := generic.Name(c.p, 7, c.l); got != "" || e != c.want {
				t.Errorf("%d: Name = %q, %v, want %v", i, got, e, c.want)
			}
		}
	}
}

// TestName asks for canonical names.
func TestName(t *testing.T) {
	long := strings.Repeat("n", 36)
	p := program(t, "proc a(x: int) { } proc b(x: int) { } proc b(x: ?t, y: int) { } proc c(x: t, param n: int, type u, param b: bool, y: range): t { } proc d(x: int) where true { } proc "+long+"(x: t) { } proc e(param n: ?t) { } proc "+strings.Repeat("m", 34)+"(x: t) { } iter f(x: sync): int { }")
	for _, c := range []struct {
		proc int
		l    []generic.Argument
		want string
		e    api.Errno
	}{
		{0, []generic.Argument{of("int")}, "a", api.OK},
		{1, []generic.Argument{of("int")}, "b__1", api.OK},
		{2, []generic.Argument{of("domain1"), of("int")}, "b__2_domain1", api.OK},
		{3, []generic.Argument{of("atomic"), number(-12), typed("int"), truth(0), of("range")}, "c__3_atomic_m12_int_false", api.OK},
		{3, []generic.Argument{of("bool"), number(0), typed("sync"), truth(1), of("range")}, "c__3_bool_0_sync_true", api.OK},
		{4, []generic.Argument{of("int")}, "d__4", api.OK},
		{5, []generic.Argument{of("int")}, "", api.ErrLarge},
		{6, []generic.Argument{number(math.MinInt)}, "e__6_m9223372036854775808", api.OK},
		{6, []generic.Argument{truth(1)}, "e__6_true", api.OK},
		{6, []generic.Argument{of("int")}, "", generic.ErrNone},
		{7, []generic.Argument{of("bool")}, "", api.ErrLarge},
		{7, []generic.Argument{of("int")}, "", api.ErrLarge},
		{8, []generic.Argument{of("sync")}, "f", api.OK},
		{8, []generic.Argument{of("int")}, "", generic.ErrNone},
		{9, nil, "", api.ErrRange},
		{-1, nil, "", api.ErrRange},
		{math.MaxInt, []generic.Argument{of("int")}, "", api.ErrRange},
		{0, nil, "", generic.ErrNone},
	} {
		if got, e := generic.Name(p, c.proc, c.l); got != c.want || e != c.e {
			t.Errorf("Name(%d, %v) = %q, %v, want %q, %v", c.proc, c.l, got, e, c.want, c.e)
		}
	}
	for extra, want := range map[int]api.Errno{33: api.OK, 34: api.ErrLarge} {
		q := program(t, "proc "+strings.Repeat("k", extra)+"(x: t) { }")
		if _, e := generic.Name(q, 0, []generic.Argument{of("int")}); e != want {
			t.Errorf("Name of %d bytes more: %v, want %v", extra, e, want)
		}
	}
}
