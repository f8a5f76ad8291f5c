package lifetime

import (
	"iter"
	"slices"
	"strings"

	"raddle/api"
)

// inElse is what the index of a statement in Else has more in a path.
const inElse = 1000

// place is where a statement stands: its path, and the variables that are open there.
type place struct {
	path []int
	open [MaxVars]bool
}

func (at place) next(i int) place {
	at.path = append(slices.Clip(at.path), i)
	return at
}

// inside returns the place of what stands in a statement.
func (at place) inside(s Stmt) place {
	if s.Op == Scope && s.A >= 0 && s.A < MaxVars {
		at.open[s.A] = true
	}
	return at
}

// walk yields the statements of a program with their places, each ahead of its Kids, and these ahead of its Else.
func (p Program) walk() iter.Seq2[place, Stmt] {
	return func(yield func(place, Stmt) bool) {
		var visit func(l []Stmt, around place, first int) bool
		visit = func(l []Stmt, around place, first int) bool {
			for i, s := range l {
				at := around.next(first + i)
				if !yield(at, s) || !visit(s.Kids, at.inside(s), 0) || !visit(s.Else, at, inElse) {
					return false
				}
			}
			return true
		}
		visit(p.Body, place{}, 0)
	}
}

// checkForm leaves with the error of a program's form.
func checkForm(p Program) {
	checkCounts(p)
	checkSize(p)
	checkKinds(p)
	for at, s := range p.walk() {
		if e := p.statementError(s, at); e != api.OK {
			panic(fault{at.path, e})
		}
	}
}

// checkCounts leaves, if there are too many classes, fields or variables.
func checkCounts(p Program) {
	wide := func(l []Field) bool { return len(l) > MaxFields }
	if len(p.Classes) > MaxClasses || len(p.Vars) > MaxVars || slices.ContainsFunc(p.Classes, wide) {
		panic(fault{code: api.ErrCount})
	}
}

// checkSize leaves, if there are too many statements, or they stand too deep.
func checkSize(p Program) {
	n, depth := 0, 0
	for at := range p.walk() {
		if n++; n > MaxStmts {
			panic(fault{code: api.ErrCount})
		}
		depth = max(depth, len(at.path))
	}
	if depth > MaxDepth {
		panic(fault{code: api.ErrDepth})
	}
}

// checkKinds leaves, if a field or a variable is of a kind that it cannot have, or of no class.
func checkKinds(p Program) {
	classed := func(class int) bool { return class >= 0 && class < len(p.Classes) }
	wrongField := func(f Field) bool {
		return f.Kind < Owned || f.Kind > Unmanaged || f.Kind == Borrowed || !classed(f.Class)
	}
	wrongVar := func(v Var) bool { return v.Kind < Owned || v.Kind > Unmanaged || !classed(v.Class) }
	wrong := func(l []Field) bool { return slices.ContainsFunc(l, wrongField) }
	if slices.ContainsFunc(p.Classes, wrong) || slices.ContainsFunc(p.Vars, wrongVar) {
		panic(fault{code: ErrKind})
	}
}

// used returns what an Op uses, in the order of texts: the letters of A, B and F, K for Kids, and E for Else; nothing for what is no Op.
func used(op int) string {
	switch op {
	case Scope:
		return "AK"
	case New, Clear, Free, Use:
		return "A"
	case Move, Copy, Borrow:
		return "AB"
	case Load, Take:
		return "ABF"
	case Store:
		return "AFB"
	case Test:
		return "AKE"
	case Either:
		return "KE"
	case Loop:
		return "K"
	}
	return ""
}

// statementError returns the error of a statement itself.
func (p Program) statementError(s Stmt, at place) api.Errno {
	uses := func(letter string) bool { return strings.Contains(used(s.Op), letter) }
	var variables []int
	if uses("A") {
		variables = append(variables, s.A)
	}
	if uses("B") {
		variables = append(variables, s.B)
	}
	unknown := func(v int) bool { return v < 0 || v >= len(p.Vars) }
	wrongScope := func(v int) bool { return at.open[v] == (s.Op == Scope) }
	switch {
	case used(s.Op) == "" || !uses("A") && s.A != 0 || !uses("B") && s.B != 0 || !uses("F") && s.F != 0:
		return api.ErrForm
	case !uses("K") && len(s.Kids) > 0 || !uses("E") && len(s.Else) > 0:
		return api.ErrForm
	case slices.ContainsFunc(variables, unknown):
		return api.ErrRange
	case uses("F") && (s.F < 0 || s.F >= len(p.fields(s))):
		return api.ErrRange
	case slices.ContainsFunc(variables, wrongScope):
		return ErrScope
	case !p.kindsFit(s):
		return ErrKind
	}
	return api.OK
}

// fields returns those of the object whose field a statement uses.
func (p Program) fields(s Stmt) []Field {
	if s.Op == Store {
		return p.Classes[p.Vars[s.A].Class]
	}
	return p.Classes[p.Vars[s.B].Class]
}

// kindsFit reports whether the kinds and classes of what a statement uses fit together.
func (p Program) kindsFit(s Stmt) bool {
	var a, b Var
	var f Field
	for _, letter := range used(s.Op) {
		switch letter {
		case 'A':
			a = p.Vars[s.A]
		case 'B':
			b = p.Vars[s.B]
		case 'F':
			f = p.fields(s)[s.F]
		}
	}
	switch action(s).(type) {
	case making:
		return a.Kind != Borrowed
	case moving:
		return s.A != s.B && a.Class == b.Class && isCounted(a) && isCounted(b) && (a.Kind == b.Kind || a.Kind == Shared)
	case copying:
		return s.A != s.B && a.Class == b.Class && a.Kind == b.Kind && a.Kind != Owned
	case borrowing:
		return a.Class == b.Class && a.Kind == Borrowed && b.Kind != Borrowed
	case loading:
		return f.Class == a.Class && a.Nilable && loads(f.Kind, a.Kind)
	case storing:
		return f.Class == b.Class && f.Kind == b.Kind
	case taking:
		return f.Kind == Owned && f.Class == a.Class && a.Kind == Owned && a.Nilable
	case clearing:
		return a.Nilable
	case freeing:
		return a.Kind == Unmanaged
	}
	return true
}

// isCounted reports whether a variable keeps its object alive: alone, or by a count.
func isCounted(v Var) bool { return v.Kind == Owned || v.Kind == Shared }

// loads reports whether a variable can get a field.
func loads(field, variable int) bool {
	switch field {
	case Owned:
		return variable == Borrowed
	case Shared:
		return variable == Borrowed || variable == Shared
	}
	return variable == Unmanaged
}

// reaches reports whether the owned and shared fields of a class lead to another one, by classes that were not visited.
func reaches(p Program, from, to int, visited []bool) bool {
	if visited[from] {
		return false
	}
	visited[from] = true
	return slices.ContainsFunc(p.Classes[from], func(f Field) bool {
		return f.Kind != Unmanaged && (f.Class == to || reaches(p, f.Class, to, visited))
	})
}
