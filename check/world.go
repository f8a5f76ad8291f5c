package check

import (
	"slices"

	"raddle/api"
)

// world has what the trees of a program see: its procedures, and the globals that were declared so far: the first ones, up to the one with the index next. At is the place of the statement that is looked at.
type world struct {
	p          api.Program
	shapes     shapes
	operations map[operation]string
	globals    map[string]Typed
	next       int
	at         Fault
}

func newWorld(p api.Program) *world {
	return &world{p: p, shapes: rules(), operations: operations(), globals: map[string]Typed{}}
}

// declare declares the next global, which sees those ahead of it, and leaves with its error.
func (w *world) declare() {
	g := w.p.Globals[w.next]
	t := w.variable(g, nil)
	if _, twice := w.globals[g.Name]; twice {
		panic(stop(api.ErrDuplicate))
	}
	w.globals[g.Name] = t
}

// declareRight declares all globals that have no error. Most expressions use none, and need not wait for it.
func (w *world) declareRight() {
	for ; w.next < len(w.p.Globals); w.next++ {
		if g := w.p.Globals[w.next]; g.Op == api.Var && w.shapes.root(g) == api.OK {
			attempt(w.declare)
		}
	}
}

// variable returns what a Var declares, and leaves with its error.
func (w *world) variable(n api.Node, s *scope) Typed {
	if n.Num&api.IsParam != 0 {
		panic(stop(ErrStatic))
	}
	declared, kids := "", n.Kids
	if n.Num&api.HasType != 0 {
		declared, kids = w.declaredType(kids[0], s), kids[1:]
	}
	t := Typed{Name: n.Name, Type: declared, Const: n.Num&api.IsConst != 0}
	if n.Num&api.HasInit == 0 {
		if declared == "range" || isDomain(declared) {
			panic(stop(api.ErrType))
		}
		return t
	}
	t.Type = w.typeOf(kids[0], s)
	if !isPlain(t.Type) || declared != "" && declared != t.Type {
		panic(stop(api.ErrType))
	}
	return t
}

// declaredType returns the type that a variable has by its Type or Array.
func (w *world) declaredType(n api.Node, s *scope) string {
	if n.Op == api.Array {
		d := w.typeOf(n.Kids[0], s)
		if !isDomain(d) {
			panic(stop(api.ErrType))
		}
		return arrayOver(d)
	}
	switch {
	case !isBasic(n.Name):
		panic(stop(ErrStatic))
	case isArray(n.Name):
		panic(stop(api.ErrType))
	}
	return n.Name
}

func isDomain(t string) bool { return t == "domain1" || t == "domain2" }
func isArray(t string) bool  { return t == "array1" || t == "array2" }
func isObject(t string) bool { return isArray(t) || t == "sync" || t == "atomic" }

// isPlain reports whether variables of a type have initial values.
func isPlain(t string) bool { return !isObject(t) && t != "void" }

func arrayOver(domain string) string {
	if domain == "domain1" {
		return "array1"
	}
	return "array2"
}

// program leaves with the first fault of a program of the right shape.
func (w *world) program() {
	for ; w.next < len(w.p.Globals); w.next++ {
		w.at = Fault{Proc: -1, Path: []int{w.next}}
		w.declare()
	}
	for i := range w.p.Procs {
		w.procedure(i)
	}
	w.at = Fault{Proc: -1}
	if !slices.ContainsFunc(w.p.Procs, isMain) {
		panic(stop(ErrMain))
	}
}

func isMain(f api.Proc) bool {
	return f.Name == "main" && !f.Iter && len(f.Formals) == 0 && f.Result.Name == "void"
}

func (w *world) procedure(i int) {
	f := w.p.Procs[i]
	w.at = Fault{Proc: i}
	if Find(w.p, f.Name) < i {
		panic(stop(api.ErrDuplicate))
	}
	if slices.ContainsFunc(f.Formals, isStatic) || !isBasic(f.Result.Name) || len(f.Where) > 0 {
		panic(stop(ErrStatic))
	}
	if isObject(f.Result.Name) || f.Iter && f.Result.Name != "int" && f.Result.Name != "bool" {
		panic(stop(api.ErrForm))
	}
	formals := &scope{}
	for _, a := range f.Formals {
		formals.declare(Typed{Name: a.Name, Type: a.Type.Name, Const: a.Intent != "in"})
	}
	body := &procedure{world: w, index: i, result: f.Result.Name, iter: f.Iter}
	body.block(f.Body, formals.inside(), nil)
}
