package generic_test

import (
	"fmt"
	"math/rand"
	"slices"
	"strconv"
	"strings"
	"testing"

	"raddle/api"
	"raddle/check"
	"raddle/generic"
	"raddle/param"
	"raddle/syntax"
)

// value is what an expression gives while a program runs: a number, a bool (0 or 1), a range, or a type. Known says that it is known at compile time.
type value struct {
	kind   string
	n, low int
	known  bool
	isType bool
}

// env is a list of scopes.
type env struct {
	names map[string]*value
	types map[string]string
	outer *env
}

func (v *env) inside() *env { return &env{names: map[string]*value{}, types: v.types, outer: v} }

func (v *env) find(name string) *value {
	for ; v != nil; v = v.outer {
		if x := v.names[name]; x != nil {
			return x
		}
	}
	return nil
}

// fault is what ends a run early.
type fault string

// machine runs programs with generics as they stand: procedures are chosen at each call, by the values that are there.
type machine struct {
	p       api.Program
	globals *env
	output  []string
	calls   int
}

// run returns the effects of a program.
func run(p api.Program) (effects string) {
	m := &machine{p: p, globals: &env{names: map[string]*value{}}}
	defer func() {
		f, ended := recover().(fault)
		if ended {
			effects = strings.Join(append(m.output, "fault "+string(f)), "\n")
		}
	}()
	for _, g := range p.Globals {
		m.statement(g, m.globals)
	}
	m.call("main", nil)
	return strings.Join(m.output, "\n")
}

func basic(name string) bool {
	return slices.Contains(strings.Fields("int bool range domain1 domain2 array1 array2 sync atomic void"), name)
}

// takes returns what a procedure binds by arguments, and its rank; false, if it does not take them.
func (m *machine) takes(f api.Proc, l []value) (*env, int, bool) {
	if len(f.Formals) != len(l) {
		return nil, 0, false
	}
	inner := &env{names: map[string]*value{}, types: map[string]string{}, outer: m.globals}
	rank := 1 - len(f.Where)
	for i, a := range f.Formals {
		x := l[i]
		variable := strings.TrimPrefix(a.Type.Name, "?")
		switch {
		case (a.Intent == "type") != x.isType:
			return nil, 0, false
		case a.Intent == "type":
			variable = a.Name
		case basic(variable) && variable != x.kind:
			return nil, 0, false
		}
		if !basic(variable) {
			if known, ok := inner.types[variable]; ok && known != x.kind {
				return nil, 0, false
			}
			inner.types[variable] = x.kind
		}
		if a.Intent == "param" && !x.known {
			return nil, 0, false
		}
		if !basic(variable) || a.Intent == "param" {
			rank += 2
		}
		if a.Intent != "type" {
			x.known = a.Intent == "param"
			inner.names[a.Name] = &x
		}
	}
	if len(f.Where) > 0 {
		if v := m.expr(f.Where[0], inner); v.n != 1 {
			return nil, 0, false
		}
	}
	return inner, rank, true
}

func (m *machine) call(name string, l []value) value {
	if m.calls++; m.calls > 20000 {
		panic(fault("calls"))
	}
	best, least := -1, 1<<30
	var scope *env
	for i, f := range m.p.Procs {
		if f.Name != name {
			continue
		}
		if inner, rank, ok := m.takes(f, l); ok && rank < least {
			best, least, scope = i, rank, inner
		}
	}
	if best < 0 {
		panic(fault("nobody takes " + name))
	}
	got, _ := m.block(m.p.Procs[best].Body, scope.inside())
	return got
}

func (m *machine) block(l []api.Node, v *env) (value, bool) {
	for _, n := range l {
		if got, left := m.statement(n, v); left {
			return got, true
		}
	}
	return value{kind: "void"}, false
}

func (m *machine) statement(n api.Node, v *env) (value, bool) {
	switch n.Op {
	case api.Var:
		x := value{}
		if n.Num&api.HasInit != 0 {
			x = m.expr(n.Kids[len(n.Kids)-1], v)
		} else {
			x.kind = n.Kids[0].Name
			if !basic(x.kind) {
				x.kind = v.types[strings.TrimPrefix(x.kind, "?")]
			}
		}
		x.known = n.Num&api.IsParam != 0
		v.names[n.Name] = &x
	case api.Assign:
		x := v.find(n.Kids[0].Name)
		y := m.expr(n.Kids[1], v)
		if n.Name == "+=" {
			y.n += x.n
		}
		x.n = y.n
	case api.If:
		if c := m.expr(n.Kids[0], v); c.n == 1 {
			return m.block(n.Kids[1].Kids, v.inside())
		}
		if len(n.Kids) == 3 {
			return m.block(n.Kids[2].Kids, v.inside())
		}
	case api.For:
		r := m.expr(n.Kids[1], v)
		for i := r.low; i <= r.n; i++ {
			inner := v.inside()
			inner.names[n.Kids[0].Name] = &value{kind: "int", n: i}
			if got, left := m.block(n.Kids[2].Kids, inner.inside()); left {
				return got, true
			}
		}
	case api.Return:
		return m.expr(n.Kids[0], v), true
	case api.Do:
		m.expr(n.Kids[0], v)
	case api.Write:
		m.write(n, v)
	case api.BlockOf:
		return m.block(n.Kids, v.inside())
	}
	return value{}, false
}

func (m *machine) write(n api.Node, v *env) {
	line := ""
	for _, k := range n.Kids {
		if k.Op == api.Str {
			line += k.Name
		} else {
			line += strconv.Itoa(m.expr(k, v).n) + " "
		}
	}
	m.output = append(m.output, line)
}

func truth01(b bool) int {
	if b {
		return 1
	}
	return 0
}

func (m *machine) expr(n api.Node, v *env) value {
	switch n.Op {
	case api.Int:
		return value{kind: "int", n: n.Num, known: true}
	case api.Bool:
		return value{kind: "bool", n: n.Num, known: true}
	case api.Name:
		return *v.find(n.Name)
	case api.Call:
		var l []value
		for _, k := range n.Kids {
			l = append(l, m.argument(k, v))
		}
		x := m.call(n.Name, l)
		x.known = false
		return x
	case api.RangeOf:
		return value{kind: "range", low: m.expr(n.Kids[0], v).n, n: m.expr(n.Kids[1], v).n}
	case api.Cond:
		c := m.expr(n.Kids[0], v)
		x := m.expr(n.Kids[2-c.n], v)
		x.known = x.known && c.known
		return x
	case api.Unary:
		x := m.expr(n.Kids[0], v)
		if n.Name == "-" {
			x.n = -x.n
		} else {
			x.n = 1 - x.n
		}
		return x
	}
	a := m.expr(n.Kids[0], v)
	if n.Name == "&&" && a.n == 0 || n.Name == "||" && a.n == 1 {
		return a
	}
	b := m.expr(n.Kids[1], v)
	x := value{kind: "bool", known: a.known && b.known}
	switch n.Name {
	case "+":
		x.kind, x.n = "int", a.n+b.n
	case "*":
		x.kind, x.n = "int", a.n*b.n%1000
	case "==":
		x.n = truth01(a.n == b.n)
	case "<":
		x.n = truth01(a.n < b.n)
	case "&&", "||":
		x.n = b.n
	}
	return x
}

func (m *machine) argument(n api.Node, v *env) value {
	name := strings.TrimPrefix(n.Name, "?")
	switch {
	case n.Op == api.Type && basic(name):
		return value{kind: name, isType: true}
	case n.Op == api.Type || n.Op == api.Name && v.find(name) == nil:
		return value{kind: v.types[name], isType: true}
	}
	return m.expr(n, v)
}

// maker makes programs with the overloads f0, f1, .. of which each one calls only later ones. Scope has the names that are visible, with their types, and those that are known.
type maker struct {
	*rand.Rand
	groups int
	arity  []int
}

type names struct {
	ints, bools, params, types []string
}

func (r *maker) one(l ...string) string { return l[r.Intn(len(l))] }

// number makes an expression of an int, which is known if the names that it may use are.
func (r *maker) number(s names, group, depth int) string {
	if depth > 0 {
		switch r.Intn(6) {
		case 0:
			return "(" + r.number(s, group, depth-1) + " + " + r.number(s, group, depth-1) + ")"
		case 1:
			return "(if " + r.truth(s, group, depth-1) + " then " + r.number(s, group, depth-1) + " else " + r.number(s, group, depth-1) + ")"
		case 2, 3:
			if group+1 < r.groups {
				return r.call(s, group+1+r.Intn(r.groups-group-1), group, depth-1)
			}
		}
	}
	if l := append(slices.Clone(s.ints), s.params...); len(l) > 0 && r.Intn(3) > 0 {
		return r.one(l...)
	}
	return strconv.Itoa(r.Intn(5) - 1)
}

func (r *maker) truth(s names, group, depth int) string {
	switch {
	case depth > 0 && r.Intn(2) == 0:
		return "(" + r.number(s, group, depth-1) + r.one(" < ", " == ") + r.number(s, group, depth-1) + ")"
	case depth > 0 && r.Intn(3) == 0:
		return "(" + r.truth(s, group, depth-1) + r.one(" && ", " || ") + r.truth(s, group, depth-1) + ")"
	case len(s.bools) > 0 && r.Intn(2) == 0:
		return r.one(s.bools...)
	}
	return r.one("true", "false")
}

// call makes a call of a group, from one.
func (r *maker) call(s names, to, from, depth int) string {
	var l []string
	for range r.arity[to] {
		switch k := r.Intn(10); {
		case k < 5:
			l = append(l, r.number(s, from, depth))
		case k < 6:
			l = append(l, strconv.Itoa(r.Intn(4)))
		case k < 8:
			l = append(l, r.truth(s, from, depth))
		case k < 9 && len(s.types) > 0:
			l = append(l, r.one(s.types...))
		default:
			l = append(l, r.one("int", "bool", "1..2"))
		}
	}
	return fmt.Sprintf("f%d(%s)", to, strings.Join(l, ", "))
}

func (r *maker) statements(s names, group, depth int) string {
	var b strings.Builder
	for range 1 + r.Intn(3) {
		switch k := r.Intn(9); {
		case k == 0:
			name := r.one("x", "y", "z")
			b.WriteString("{ var " + name + " = " + r.number(s, group, 1) + "; ")
			inner := s
			inner.ints = append(slices.Clone(s.ints), name)
			b.WriteString(r.statements(inner, group, depth-1) + "} ")
		case k == 1 && depth > 0:
			b.WriteString("if " + r.truth(s, group, 1) + " { " + r.statements(s, group, depth-1) + "} else { " + r.statements(s, group, depth-1) + "} ")
		case k == 2 && depth > 0:
			inner := s
			inner.ints = append(slices.Clone(s.ints), "i")
			b.WriteString("for i in 0.." + strconv.Itoa(r.Intn(3)) + " { " + r.statements(inner, group, depth-1) + "} ")
		case k == 3 && depth > 0:
			inner := s
			inner.params = append(slices.Clone(s.params), "q")
			b.WriteString("{ param q = " + r.one("1", "g * 2", "g + 1", "if g < 3 then 4 else 5") + "; " + r.statements(inner, group, depth-1) + "} ")
		case k == 4 && len(s.types) > 0:
			t := r.one(s.types...)
			b.WriteString("{ var w: " + t + "; write(\"w\", w); } ")
		default:
			b.WriteString("write(\"s\", " + r.number(s, group, 2) + "); ")
		}
	}
	return b.String()
}

func (r *maker) procedure(group, overload int) string {
	s := names{params: []string{"g"}}
	var formals []string
	for i := range r.arity[group] {
		name := "a" + strconv.Itoa(i)
		switch r.Intn(6) {
		case 0:
			formals = append(formals, name+": int")
			s.ints = append(s.ints, name)
		case 1:
			formals = append(formals, name+": bool")
			s.bools = append(s.bools, name)
		case 2:
			formals = append(formals, "param "+name+": int")
			s.params = append(s.params, name)
		case 3:
			formals = append(formals, "type t"+strconv.Itoa(i))
			s.types = append(s.types, "t"+strconv.Itoa(i))
			continue
		default:
			formals = append(formals, name+": ?t"+strconv.Itoa(i))
			s.types = append(s.types, "t"+strconv.Itoa(i))
		}
	}
	where := ""
	if len(s.params) > 1 && r.Intn(2) == 0 {
		where = " where " + s.params[1] + r.one(" < 2", " == 1")
	}
	return fmt.Sprintf("proc f%d(%s): int%s { write(\"f%d.%d\"); %sreturn %s; } ", group, strings.Join(formals, ", "), where, group, overload, r.statements(s, group, 2), r.number(s, group, 2))
}

func (r *maker) program() string {
	r.groups = 3
	r.arity = []int{1 + r.Intn(2), 1 + r.Intn(2), r.Intn(3)}
	var l []string
	for group := range r.groups {
		for overload := range 2 + r.Intn(4) {
			l = append(l, r.procedure(group, overload))
		}
	}
	r.Shuffle(len(l), func(i, j int) { l[i], l[j] = l[j], l[i] })
	s := names{params: []string{"g"}}
	l = append(l, "proc main() { "+r.statements(s, -1, 2)+"write(\"h\", h); }")
	return "param g = " + strconv.Itoa(r.Intn(4)) + "; var h = " + r.number(s, -1, 1) + "; " + strings.Join(l, "")
}

// TestEffects asks P5 of random programs: those without params and without generics have the same effects; and P14.3 and P14.4 of them.
func TestEffects(t *testing.T) {
	r := &maker{Rand: rand.New(rand.NewSource(14))}
	done, static, codes := 0, 0, map[api.Errno]int{}
	for range 5000 {
		text := r.program()
		p := program(t, text)
		folded, e := param.Fold(p)
		if e != api.OK {
			t.Fatalf("Fold(%s) = %v", text, e)
		}
		made, e := generic.Program(p)
		codes[e]++
		if e != api.OK {
			continue
		}
		done++
		want := run(p)
		if got := run(folded); got != want {
			t.Fatalf("%s: folded: %s, want %s", text, got, want)
		}
		if got := run(made); withoutFault(got) != withoutFault(want) {
			written, _ := syntax.Write(modules(made))
			t.Fatalf("%s: %s: %s, want %s", text, written, got, want)
		}
		for _, f := range made.Procs {
			static += strings.Count(f.Name, "__")
		}
		askDone(t, text, made)
		more, e := generic.Program(program(t, text+" proc other(x: ?t): t { var y: t; return f0(y); }"))
		if e != api.OK || !same(more, made) {
			t.Fatalf("%s: with more: %v", text, e)
		}
	}
	if done < 500 || static < 400 || codes[generic.ErrNone] == 0 || codes[generic.ErrAmbiguous] == 0 {
		t.Errorf("%d programs, %d instances, %v", done, static, codes)
	}
}

// withoutFault leaves out that too many calls ended a run.
func withoutFault(s string) string { return strings.TrimSuffix(s, "fault calls") }

// askDone asks P14.3 of a program without generics.
func askDone(t *testing.T, text string, made api.Program) {
	t.Helper()
	again, e := generic.Program(made)
	if e != api.OK || len(again.Globals) != len(made.Globals) {
		t.Fatalf("%s: Program of Program: %v", text, e)
	}
	for i, g := range again.Globals {
		if !syntax.Same(g, made.Globals[i]) {
			t.Fatalf("%s: other globals: %v", text, again.Globals)
		}
	}
	for _, f := range again.Procs {
		at := check.Find(made, f.Name)
		if at < 0 || !same(api.Program{Procs: []api.Proc{f}}, api.Program{Procs: made.Procs[at : at+1]}) {
			t.Fatalf("%s: another procedure: %v", text, f)
		}
	}
	seen := map[string]bool{}
	for _, f := range made.Procs {
		if seen[f.Name] || len(f.Where) > 0 {
			t.Fatalf("%s: %s stands twice, or has a condition", text, f.Name)
		}
		seen[f.Name] = true
		for _, a := range f.Formals {
			if a.Intent == "param" || a.Intent == "type" || !basic(a.Type.Name) {
				t.Fatalf("%s: a static formal argument of %s", text, f.Name)
			}
		}
	}
}
