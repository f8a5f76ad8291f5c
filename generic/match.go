package generic

import (
	"cmp"
	"slices"
	"strconv"
	"strings"

	"raddle/api"
	"raddle/check"
	"raddle/param"
)

const (
	maxArguments = 20
	typeNames    = "int bool range domain1 domain2 array1 array2 sync atomic void"
)

// isBasic reports whether a name is that of a type; all others are those of type variables.
func isBasic(name string) bool { return slices.Contains(strings.Fields(typeNames), name) }

// variableOf returns the name of a Type that is a type variable.
func variableOf(t api.Node) (string, bool) {
	return strings.TrimPrefix(t.Name, "?"), t.Op == api.Type && !isBasic(t.Name)
}

func isStatic(a api.Formal) bool {
	_, variable := variableOf(a.Type)
	return isGone(a) || variable
}

// isGone reports whether instances do not have a formal argument.
func isGone(a api.Formal) bool { return a.Intent == "type" || a.Intent == "param" }

// binding is a list of type variables with their types, the last one first. One without a type hides those ahead.
type binding struct {
	name, of string
	ahead    *binding
}

// find returns the type of a type variable, or nothing.
func (b *binding) find(name string) string {
	for ; b != nil; b = b.ahead {
		if b.name == name {
			return b.of
		}
	}
	return ""
}

// bind gives a type to a type variable, unless it has another one.
func (b *binding) bind(name, of string) (*binding, int) {
	switch b.find(name) {
	case "":
		return &binding{name, of, b}, 0
	case of:
		return b, 0
	}
	return b, WhyType
}

func (b *binding) hide(name string) *binding { return &binding{name, "", b} }

// take binds what a formal argument binds by an argument, and tells why not.
func (b *binding) take(a api.Formal, x Argument) (*binding, int) {
	if (a.Intent == "type") != x.IsType {
		return b, WhyType
	}
	why := 0
	name, variable := variableOf(a.Type)
	switch {
	case a.Intent == "type":
		b, why = b.bind(a.Name, x.Type)
	case variable && x.Type != "void":
		b, why = b.bind(name, x.Type)
	case a.Type.Name != x.Type:
		why = WhyType
	}
	if why == 0 && a.Intent == "param" && len(x.Value) == 0 {
		why = WhyParam
	}
	return b, why
}

// match returns the types of a procedure's type variables, or why it does not take arguments.
func match(f api.Proc, l []Argument) (*binding, int) {
	if len(f.Formals) != len(l) {
		return nil, WhyCount
	}
	var types *binding
	for i, a := range f.Formals {
		why := 0
		if types, why = types.take(a, l[i]); why != 0 {
			return nil, why
		}
	}
	if len(f.Where) > 0 {
		v, e := param.Eval(f.Where[0], constants(f, l))
		if e != api.OK || v.Op != api.Bool || v.Num != 1 {
			return nil, WhyWhere
		}
	}
	return types, 0
}

// constants returns the values of the formal arguments with the Intent param.
func constants(f api.Proc, l []Argument) []param.Const {
	var all []param.Const
	for i, a := range f.Formals {
		if a.Intent == "param" {
			all = append(all, param.Const{Name: a.Name, Value: l[i].Value[0]})
		}
	}
	return all
}

// rank returns how far a procedure is from one that is made for its arguments alone.
func rank(f api.Proc) int {
	n := 0
	for _, a := range f.Formals {
		if isStatic(a) {
			n += 2
		}
	}
	if len(f.Where) == 0 {
		n++
	}
	return n
}

func candidates(p api.Program, name string, l []Argument) []Candidate {
	var all []Candidate
	for i, f := range p.Procs {
		if f.Name == name {
			_, why := match(f, l)
			all = append(all, Candidate{Proc: i, Why: why, Rank: rank(f)})
		}
	}
	return all
}

// choose returns the candidate with the least rank that takes arguments, if there is just one.
func choose(p api.Program, name string, l []Argument) (int, api.Errno) {
	all := candidates(p, name, l)
	slices.SortStableFunc(all, func(a, b Candidate) int {
		return cmp.Or(cmp.Compare(min(a.Why, 1), min(b.Why, 1)), cmp.Compare(a.Rank, b.Rank))
	})
	switch {
	case len(all) == 0 || all[0].Why != 0:
		return 0, ErrNone
	case len(all) > 1 && all[1].Why == 0 && all[1].Rank == all[0].Rank:
		return 0, ErrAmbiguous
	}
	return all[0].Proc, api.OK
}

// canonical returns the name of an instance.
func canonical(p api.Program, proc int, l []Argument, types *binding) (string, api.Errno) {
	f := p.Procs[proc]
	name := f.Name
	overloads := slices.IndexFunc(p.Procs[proc+1:], func(g api.Proc) bool { return g.Name == f.Name }) >= 0 || check.Find(p, f.Name) < proc
	if overloads || len(f.Where) > 0 || slices.ContainsFunc(f.Formals, isStatic) {
		name += "__" + strconv.Itoa(proc)
		for i, a := range f.Formals {
			if isStatic(a) {
				name += "_" + staticText(a, l[i], types)
			}
		}
	}
	if len(name) > api.MaxName {
		return "", api.ErrLarge
	}
	return name, api.OK
}

// staticText returns what stands for an argument in the name of an instance.
func staticText(a api.Formal, x Argument, types *binding) string {
	if a.Intent != "param" {
		return x.Type
	}
	v := x.Value[0]
	if v.Op == api.Bool {
		return strconv.FormatBool(v.Num == 1)
	}
	return strings.Replace(strconv.Itoa(v.Num), "-", "m", 1)
}

// argumentsError returns the error of arguments.
func argumentsError(l []Argument) api.Errno {
	if len(l) > maxArguments {
		return api.ErrCount
	}
	for _, x := range l {
		if !isBasic(x.Type) || x.IsType && (len(x.Value) > 0 || x.Type == "void") || !isValue(x) {
			return api.ErrArgument
		}
	}
	return api.OK
}

// isValue reports whether an argument has no value, or one of its type.
func isValue(x Argument) bool {
	if len(x.Value) == 0 {
		return true
	}
	v := x.Value[0]
	right := v.Op == api.Int && x.Type == "int" || v.Op == api.Bool && x.Type == "bool"
	return len(x.Value) == 1 && right && check.Node(v) == api.OK
}
