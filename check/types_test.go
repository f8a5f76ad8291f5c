package check_test

import (
	"slices"
	"strings"
	"testing"

	"raddle/api"
	"raddle/check"
	"raddle/syntax"
)

// program reads a program.
func program(t *testing.T, text string) api.Program {
	t.Helper()
	p, at, e := syntax.Program("module M { " + text + " }")
	if e != api.OK {
		t.Fatalf("%q: %v at %d", text, e, at)
	}
	return p
}

// expr reads an expression.
func expr(t *testing.T, text string) api.Node {
	t.Helper()
	n, at, e := syntax.ReadExpr(text)
	if e != api.OK {
		t.Fatalf("%q: %v at %d", text, e, at)
	}
	return n
}

const allTypes = "int bool range domain1 domain2 array1 array2 sync atomic void"

// named returns a local of each type, with the type's first letters and number as its name.
func named() []check.Typed {
	var l []check.Typed
	for _, name := range strings.Fields(allTypes) {
		l = append(l, check.Typed{Name: "a_" + name, Type: name})
	}
	return l
}

// operators lists all operations: what is done, and then the types of the operands and the result of each way to do it.
const operators = `
unary -: int int
unary !: bool bool
binary + - * / %: int int int
binary == !=: int int bool, bool bool bool
binary < <= > >=: int int bool
binary && ||: bool bool bool
range: int int range
by count: range int range
domain: range domain1, range range domain2
mapped block cyclic hashed: domain1 domain1, domain2 domain2
mapped blockcyclic: domain1 int domain1, domain2 int domain2
index: array1 int int, array2 int int int
field size: range int, domain1 int, domain2 int, array1 int, array2 int
field low high stride: range int
field domain: array1 domain1, array2 domain2
method readFE readFF readXX: sync int
method isFull: sync bool
method reset: sync void
method writeEF writeFF writeXF: sync int void
method read: atomic int
method write add: atomic int void
method fetchAdd exchange: atomic int int
method compareAndSwap: atomic int int bool
reduce + * min max: range int, domain1 int, array1 int, array2 int
cond: bool int int int, bool bool bool bool, bool range range range, bool domain1 domain1 domain1, bool domain2 domain2 domain2
`

// nodesOf returns the nodes without Kids of a line's head.
func nodesOf(head string) []api.Node {
	words := strings.Fields(head)
	ops := map[string]int{"unary": api.Unary, "binary": api.Binary, "range": api.RangeOf, "by": api.By, "count": api.Count, "domain": api.DomainOf, "mapped": api.Mapped, "index": api.Index, "field": api.Field, "method": api.Method, "reduce": api.Reduce, "cond": api.Cond}
	switch words[0] {
	case "by":
		return []api.Node{{Op: api.By}, {Op: api.Count}}
	case "range", "domain", "index", "cond":
		return []api.Node{{Op: ops[words[0]]}}
	}
	var l []api.Node
	for _, name := range words[1:] {
		l = append(l, api.Node{Op: ops[words[0]], Name: name})
	}
	return l
}

// TestOperations asks for the type of each operation with operands of all types.
func TestOperations(t *testing.T) {
	l := named()
	kinds := strings.Fields(allTypes)
	for line := range strings.Lines(strings.TrimSpace(operators)) {
		head, tail, _ := strings.Cut(line, ":")
		results := map[string]string{}
		arities := map[int]bool{}
		for _, way := range strings.Split(tail, ",") {
			words := strings.Fields(way)
			last := len(words) - 1
			results[strings.Join(words[:last], " ")] = words[last]
			arities[last] = true
		}
		for _, n := range nodesOf(head) {
			for count := range arities {
				all := 1
				for range count {
					all *= len(kinds)
				}
				for code := range all {
					n.Kids = nil
					var types []string
					for range count {
						types = append(types, kinds[code%10])
						n.Kids = append(n.Kids, api.Node{Op: api.Name, Name: "a_" + kinds[code%10]})
						code /= 10
					}
					want, ok := results[strings.Join(types, " ")]
					wantError := api.OK
					if !ok {
						wantError = api.ErrType
					}
					if got, e := check.TypeOf(api.Program{}, n, l); got != want || e != wantError {
						t.Fatalf("TypeOf(%v) = %q, %v, want %q, %v", n, got, e, want, wantError)
					}
				}
			}
		}
	}
}

// TestLeaves asks for the types of expressions without operands.
func TestLeaves(t *testing.T) {
	for _, c := range []struct {
		n    api.Node
		want string
	}{
		{api.Node{Op: api.Int, Num: -4}, "int"},
		{api.Node{Op: api.Here}, "int"},
		{api.Node{Op: api.NumLocales}, "int"},
		{api.Node{Op: api.Bool, Num: 1}, "bool"},
	} {
		if got, e := check.TypeOf(api.Program{}, c.n, nil); got != c.want || e != api.OK {
			t.Errorf("TypeOf(%v) = %q, %v, want %q", c.n, got, e, c.want)
		}
	}
}

// TestNames asks which local or global a name means.
func TestNames(t *testing.T) {
	p := program(t, "var x = 1; var b = true; var x = false; var d = {1..3}; var a: [d] int; var e: [{1..2, 1..2}] int; var c: sync; var bad = 1 + true; var worse = bad; var later = last; var last = 1; param k = 1; var f: t; var z: bool = g(1); var bad = true; var r: range; const q: int = 3; var y = y;")
	p.Procs = program(t, "proc g(n: int): bool { }").Procs
	p.Globals = append(p.Globals, api.Node{Op: api.Int}, api.Node{Op: api.Var, Name: "w"}, api.Node{Op: api.Var, Name: "u", Num: api.HasInit, Kids: []api.Node{{Op: api.Str}}})
	l := []check.Typed{{Name: "m", Type: "range"}, {Name: "b", Type: "int"}, {Name: "m", Type: "atomic", Const: true}, {Name: "odd", Type: "?t"}}
	for name, want := range map[string]string{"x": "int", "d": "domain1", "a": "array1", "e": "array2", "c": "sync", "m": "atomic", "b": "int", "last": "int", "z": "bool", "odd": "?t", "bad": "bool", "q": "int"} {
		if got, e := check.TypeOf(p, api.Node{Op: api.Name, Name: name}, l); got != want || e != api.OK {
			t.Errorf("TypeOf(%s) = %q, %v, want %q", name, got, e, want)
		}
	}
	for _, name := range []string{"worse", "later", "k", "f", "r", "w", "u", "y", "nothing"} {
		if got, e := check.TypeOf(p, api.Node{Op: api.Name, Name: name}, l); got != "" || e != api.ErrMissing {
			t.Errorf("TypeOf(%s) = %q, %v, want ErrMissing", name, got, e)
		}
	}
	untyped := []check.Typed{{Name: "u"}}
	for _, text := range []string{"1 - u", "1..u", "{1..2, u}", "if true then u else u"} {
		if got, e := check.TypeOf(p, expr(t, text), untyped); got != "" || e != api.ErrType {
			t.Errorf("%s with a local of no type: %q, %v", text, got, e)
		}
	}
	if got, e := check.TypeOf(p, expr(t, "b == true"), nil); got != "bool" || e != api.OK {
		t.Errorf("b without locals: %q, %v", got, e)
	}
}

const callees = "proc f(a: int, b: bool): range { } proc v() { } iter two(n: int): int { } proc k(param n: int): int { } proc y(type t): int { } proc g(x: ?t): int { } proc h(x: t): int { } proc two(n: bool): bool { } iter ik(param n: int): int { } proc arr(a: array1, s: sync, c: atomic, r: range, d: domain2): int { } proc res(): ?t { } proc w(n: int): int where n > 1 { }"

// TestCalls asks for the types and errors of expressions with calls, and for the order of errors.
func TestCalls(t *testing.T) {
	p := program(t, callees)
	l := named()
	for _, c := range []struct {
		text, want string
		e          api.Errno
	}{
		{"f(1, true)", "range", api.OK},
		{"f(1, true).size + 1", "int", api.OK},
		{"v()", "void", api.OK},
		{"w(1)", "int", api.OK},
		{"arr(a_array1, a_sync, a_atomic, a_range, a_domain2)", "int", api.OK},
		{"arr(a_array2, a_sync, a_atomic, a_range, a_domain2)", "", api.ErrType},
		{"arr(a_array1, a_atomic, a_atomic, a_range, a_domain2)", "", api.ErrType},
		{"f(1)", "", api.ErrCount},
		{"f(1, true, 3)", "", api.ErrCount},
		{"f(true, true)", "", api.ErrType},
		{"f(1, v())", "", api.ErrType},
		{"f(true)", "", api.ErrCount},
		{"nobody(1)", "", api.ErrMissing},
		{"x", "", api.ErrMissing},
		{"two(1)", "", check.ErrPlace},
		{"two(true, x)", "", api.ErrMissing},
		{"two(true)", "", check.ErrPlace},
		{"two()", "", check.ErrPlace},
		{"k(1)", "", check.ErrStatic},
		{"k()", "", check.ErrStatic},
		{"y(1)", "", check.ErrStatic},
		{"y(int)", "", check.ErrStatic},
		{"g(1)", "", check.ErrStatic},
		{"h(1)", "", check.ErrStatic},
		{"ik(1)", "", check.ErrStatic},
		{"f(int, x)", "", check.ErrStatic},
		{"f(x, int)", "", api.ErrMissing},
		{"nobody(int)", "", check.ErrStatic},
		{"nobody(1 + true)", "", api.ErrType},
		{"1 + true == x", "", api.ErrType},
		{"x == 1 + true", "", api.ErrMissing},
		{"(1 + true) + x", "", api.ErrType},
		{"1 + x * true", "", api.ErrMissing},
		{"two(1) + true", "", check.ErrPlace},
		{"v() == v()", "", api.ErrType},
		{"if true then v() else v()", "", api.ErrType},
		{"if true then 1 else true", "", api.ErrType},
		{"f", "", api.ErrMissing},
		{"true && !(1 < 2)", "bool", api.OK},
		{"{1..2, 3..4} dmapped blockcyclic(3)", "domain2", api.OK},
		{"{1..2} dmapped blockcyclic(true)", "", api.ErrType},
		{"1..2 by true", "", api.ErrType},
		{"max reduce a_domain2", "", api.ErrType},
		{"a_array1[1, 2]", "", api.ErrType},
		{"a_array2[1]", "", api.ErrType},
		{"a_range[1]", "", api.ErrType},
		{"a_sync.read()", "", api.ErrType},
		{"a_atomic.readFE()", "", api.ErrType},
		{"&& reduce a_array1", "", api.ErrForm},
		{"-x", "", api.ErrMissing},
	} {
		if got, e := check.TypeOf(p, expr(t, c.text), l); got != c.want || e != c.e {
			t.Errorf("TypeOf(%s) = %q, %v, want %q, %v", c.text, got, e, c.want, c.e)
		}
	}
}

// TestTypeOfForms asks for the errors of what is no expression, or of no right shape.
func TestTypeOfForms(t *testing.T) {
	one := api.Node{Op: api.Int, Num: 1}
	for i, c := range []struct {
		n    api.Node
		want api.Errno
	}{
		{api.Node{}, api.ErrForm},
		{api.Node{Op: api.Name, Name: "?"}, api.ErrForm},
		{api.Node{Op: api.Str, Name: "s"}, api.ErrForm},
		{chain(61, one), api.ErrDepth},
		{chain(4001, one), api.ErrCount},
		{kind("int"), api.ErrType},
		{api.Node{Op: api.Return}, api.ErrType},
		{chain(60, api.Node{Op: api.Name, Name: "x"}), api.ErrMissing},
	} {
		if got, e := check.TypeOf(api.Program{}, c.n, nil); got != "" || e != c.want {
			t.Errorf("%d: TypeOf = %q, %v, want %v", i, got, e, c.want)
		}
	}
	// Programs of no right form are no reason to fail.
	raw := api.Program{Globals: []api.Node{{}, {Op: api.Var}}, Procs: []api.Proc{{Name: "f", Formals: []api.Formal{{}}}, {Name: "g"}}}
	for _, text := range []string{"f(1)", "g()", "h()", "x"} {
		check.TypeOf(raw, expr(t, text), nil)
	}
}

// TestTypeOfLocals asks P13.2 and P13.5 of random expressions.
func TestTypeOfLocals(t *testing.T) {
	r := newTrees(15)
	p := program(t, callees+" var g1 = 1; var g2 = {1..2};")
	var names []string
	for _, l := range named() {
		names = append(names, l.Name)
	}
	right := 0
	for range 20000 {
		e := r.expr(r.pick(strings.Fields("int bool range domain1 domain2")...), 4)
		l := named()
		want, code := check.TypeOf(p, e, l)
		if code == api.OK {
			right++
		}
		used := check.Free(e, names)
		unused := slices.DeleteFunc(named(), func(l check.Typed) bool { return slices.Contains(used, l.Name) })
		for i := range unused {
			unused[i].Type = r.pick(strings.Fields(allTypes)...)
		}
		if got, e2 := check.TypeOf(p, e, append(l, unused...)); got != want || e2 != code {
			t.Fatalf("%v with other locals: %q, %v, want %q, %v", e, got, e2, want, code)
		}
		if got, e2 := check.TypeOf(p, e, append(l, l[r.Intn(len(l))])); got != want || e2 != code {
			t.Fatalf("%v with a local twice: %q, %v, want %q, %v", e, got, e2, want, code)
		}
		if len(used) == 0 {
			if got, e2 := check.TypeOf(p, e, nil); got != want || e2 != code {
				t.Fatalf("%v without locals: %q, %v, want %q, %v", e, got, e2, want, code)
			}
		}
	}
	if right < 5000 {
		t.Errorf("only %d of the expressions are right", right)
	}
}
