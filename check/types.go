package check

import (
	"strings"

	"raddle/api"
)

// operation is what an expression does, and the types of its operands: up to three, the others are empty.
type operation [4]string

// operations has the types of all expressions with operands, but of calls.
func operations() map[operation]string {
	const number, truth, span = "int", "bool", "range"
	all := map[operation]string{
		{"unary -", number}:              number,
		{"unary !", truth}:               truth,
		{"==", truth, truth}:             truth,
		{"!=", truth, truth}:             truth,
		{"&&", truth, truth}:             truth,
		{"||", truth, truth}:             truth,
		{"..", number, number}:           span,
		{"by", span, number}:             span,
		{"#", span, number}:              span,
		{"{}", span}:                     "domain1",
		{"{}", span, span}:               "domain2",
		{"[]", "array1", number}:         number,
		{"[]", "array2", number, number}: number,
		{".domain", "array1"}:            "domain1",
		{".domain", "array2"}:            "domain2",
	}
	for _, sign := range strings.Fields("+ - * / %") {
		all[operation{sign, number, number}] = number
	}
	for _, sign := range strings.Fields("== != < <= > >=") {
		all[operation{sign, number, number}] = truth
	}
	for _, t := range strings.Fields("domain1 domain2") {
		all[operation{"dmapped", t}], all[operation{"dmapped", t, number}] = t, t
	}
	for _, t := range strings.Fields("range domain1 domain2 array1 array2") {
		all[operation{".size", t}] = number
	}
	for _, name := range strings.Fields("low high stride") {
		all[operation{"." + name, span}] = number
	}
	for _, t := range strings.Fields("range domain1 array1 array2") {
		all[operation{"reduce", t}] = number
	}
	for _, t := range strings.Fields("int bool range domain1 domain2") {
		all[operation{"if", truth, t, t}] = t
	}
	addMethods(all)
	return all
}

func addMethods(all map[operation]string) {
	for _, m := range []struct{ of, names, result, first, second string }{
		{"sync", "readFE readFF readXX", "int", "", ""},
		{"sync", "isFull", "bool", "", ""},
		{"sync", "reset", "void", "", ""},
		{"sync", "writeEF writeFF writeXF", "void", "int", ""},
		{"atomic", "read", "int", "", ""},
		{"atomic", "write add", "void", "int", ""},
		{"atomic", "fetchAdd exchange", "int", "int", ""},
		{"atomic", "compareAndSwap", "bool", "int", "int"},
	} {
		for _, name := range strings.Fields(m.names) {
			all[operation{"." + name, m.of, m.first, m.second}] = m.result
		}
	}
}

// sign returns what an expression with operands does.
func sign(n api.Node) string {
	switch n.Op {
	case api.Unary:
		return "unary " + n.Name
	case api.Binary:
		return n.Name
	case api.RangeOf:
		return ".."
	case api.By:
		return "by"
	case api.Count:
		return "#"
	case api.DomainOf:
		return "{}"
	case api.Mapped:
		return "dmapped"
	case api.Index:
		return "[]"
	case api.Field, api.Method:
		return "." + n.Name
	case api.Reduce:
		return "reduce"
	}
	return "if"
}

// typeOf returns the type of an expression of the right shape, and leaves with its error.
func (w *world) typeOf(n api.Node, s *scope) string {
	switch n.Op {
	case api.Int, api.Here, api.NumLocales:
		return "int"
	case api.Bool:
		return "bool"
	case api.Name:
		return w.find(n.Name, s).Type
	case api.Type:
		panic(stop(ErrStatic))
	case api.Call:
		return w.call(n, s, false).Result.Name
	}
	does := operation{sign(n)}
	known := true
	for i, k := range n.Kids {
		does[i+1] = w.typeOf(k, s)
		known = known && does[i+1] != ""
	}
	t, ok := w.operations[does]
	if !ok || !known {
		panic(stop(api.ErrType))
	}
	return t
}

// find returns the local, or otherwise the global, that a name means. Globals stand in no scope, and see those ahead of them alone.
func (w *world) find(name string, s *scope) Typed {
	if l, ok := s.find(name); ok {
		return l
	}
	if s != nil {
		w.declareRight()
	}
	if g, ok := w.globals[name]; ok {
		return g
	}
	panic(stop(api.ErrMissing))
}

// call returns the procedure that is called; an iterator only where a loop goes through it.
func (w *world) call(n api.Node, s *scope, through bool) api.Proc {
	var types []string
	for _, k := range n.Kids {
		types = append(types, w.typeOf(k, s))
	}
	at := Find(w.p, n.Name)
	if at < 0 {
		panic(stop(api.ErrMissing))
	}
	f := w.p.Procs[at]
	for _, a := range f.Formals {
		if isStatic(a) {
			panic(stop(ErrStatic))
		}
	}
	switch {
	case f.Iter && !through:
		panic(stop(ErrPlace))
	case len(types) != len(f.Formals):
		panic(stop(api.ErrCount))
	}
	for i, a := range f.Formals {
		if a.Type.Name != types[i] {
			panic(stop(api.ErrType))
		}
	}
	return f
}

func isStatic(a api.Formal) bool {
	return a.Intent == "param" || a.Intent == "type" || !isBasic(a.Type.Name)
}

// want leaves, if an expression has not a type.
func (w *world) want(n api.Node, s *scope, t string) {
	if w.typeOf(n, s) != t {
		panic(stop(api.ErrType))
	}
}
