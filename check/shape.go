package check

import (
	"slices"
	"strings"

	"raddle/api"
)

// maxFormals is how many formal arguments a procedure has at most, and maxText how many bytes a Str.
const (
	maxFormals = 20
	maxText    = 200
)

// The names of types, and of the operations of sync and atomic variables by the number of their arguments.
const (
	typeNames    = "int bool range domain1 domain2 array1 array2 sync atomic void"
	noArgument   = "readFE readFF readXX isFull reset read"
	oneArgument  = "writeEF writeFF writeXF write add fetchAdd exchange"
	twoArguments = "compareAndSwap"
)

// rule says whether a node has the Name, the Num and the Kids of its Op, as far as the Ops of the Kids tell.
type rule func(n api.Node) bool

// shapes has the rule of each Op.
type shapes map[int]rule

func rules() shapes {
	all := shapes{
		api.Int:    node(isEmpty, isAny, ""),
		api.Bool:   node(isEmpty, isBit, ""),
		api.Str:    node(isText, isZero, ""),
		api.Name:   node(isName, isZero, ""),
		api.Unary:  node(isOneOf("- !"), isZero, "e"),
		api.Binary: node(isOneOf("+ - * / % == != < <= > >= && ||"), isZero, "ee"),
		api.Mapped: either(node(isOneOf("block cyclic hashed"), isZero, "e"), node(isOneOf("blockcyclic"), isZero, "ee")),
		api.Call:   node(isName, isZero, "a*"),
		api.Field:  node(isOneOf("size low high stride domain"), isZero, "e"),
		api.Method: either(node(isOneOf(noArgument), isZero, "e"), node(isOneOf(oneArgument), isZero, "ee"), node(isOneOf(twoArguments), isZero, "eee")),
		api.Reduce: node(isOneOf("+ * min max"), isZero, "e"),
		api.Type:   node(isTypeName, isZero, ""),
		api.Var:    isVar,
		api.Assign: node(isOneOf("= += -= *="), isZero, "xe"),
		api.Intent: node(isOneOf("+ * min max && ||"), isZero, "n"),
		api.Forall: either(node(isEmpty, isNumber(1), "nebi*"), node(isEmpty, isNumber(2), "nnebi*")),
	}
	for _, op := range []int{api.For, api.Coforall} {
		all[op] = either(node(isEmpty, isNumber(1), "neb"), node(isEmpty, isNumber(2), "nneb"))
	}
	for kids, ops := range map[string][]int{
		"":     {api.Here, api.NumLocales},
		"e":    {api.Array, api.Yield, api.Assert},
		"e?":   {api.Return},
		"ee":   {api.RangeOf, api.By, api.Count},
		"ee?":  {api.DomainOf},
		"eee":  {api.Cond},
		"eee?": {api.Index},
		"b":    {api.Begin, api.Sync},
		"bb*":  {api.Cobegin},
		"eb":   {api.While, api.On},
		"ebb?": {api.If},
		"c":    {api.Do},
		"w*":   {api.Write},
		"s*":   {api.BlockOf},
	} {
		for _, op := range ops {
			all[op] = node(isEmpty, isZero, kids)
		}
	}
	return all
}

// node returns the rule of nodes whose Name and Num pass tests, and whose Kids are a letter each: behind the last one perhaps ? (it may be missing) or * (any number).
func node(name func(string) bool, num func(int) bool, kids string) rule {
	return func(n api.Node) bool { return name(n.Name) && num(n.Num) && areKids(kids, n.Kids) }
}

func either(l ...rule) rule {
	return func(n api.Node) bool {
		return slices.ContainsFunc(l, func(r rule) bool { return r(n) })
	}
}

func isVar(n api.Node) bool {
	kids := ""
	if n.Num&api.HasType != 0 {
		kids += "t"
	}
	if n.Num&api.HasInit != 0 {
		kids += "e"
	}
	const flags = api.HasType | api.HasInit | api.IsConst | api.IsParam
	return isName(n.Name) && n.Num&^flags == 0 && kids != "" && areKids(kids, n.Kids)
}

func areKids(kids string, l []api.Node) bool {
	letters := strings.TrimRight(kids, "?*")
	last := len(letters) - 1
	switch {
	case strings.HasSuffix(kids, "?") && len(l) == last:
	case strings.HasSuffix(kids, "*") && len(l) >= last:
	case len(l) != len(letters):
		return false
	}
	for i, n := range l {
		if !isKid(letters[min(i, last)], n) {
			return false
		}
	}
	return true
}

func isKid(letter byte, n api.Node) bool {
	switch letter {
	case 'e':
		return isExpr(n)
	case 'a':
		return isExpr(n) || n.Op == api.Type
	case 'w':
		return isExpr(n) || n.Op == api.Str
	case 't':
		return n.Op == api.Type && n.Name != "void" || n.Op == api.Array
	case 'n':
		return n.Op == api.Name
	case 'x':
		return n.Op == api.Name || n.Op == api.Index
	case 'c':
		return n.Op == api.Call || n.Op == api.Method
	case 'b':
		return n.Op == api.BlockOf
	case 's':
		return isStatement(n)
	}
	return n.Op == api.Intent
}

func isExpr(n api.Node) bool      { return n.Op >= api.Int && n.Op <= api.Cond && n.Op != api.Str }
func isStatement(n api.Node) bool { return n.Op >= api.Var && n.Op <= api.BlockOf }

func isEmpty(s string) bool { return s == "" }
func isAny(int) bool        { return true }
func isZero(n int) bool     { return n == 0 }
func isBit(n int) bool      { return n == 0 || n == 1 }

func isNumber(want int) func(int) bool { return func(n int) bool { return n == want } }

func isOneOf(words string) func(string) bool {
	l := strings.Fields(words)
	return func(s string) bool { return slices.Contains(l, s) }
}

func isText(s string) bool {
	return len(s) <= maxText && !strings.ContainsFunc(s, func(r rune) bool { return r < 32 || r > 126 })
}

func isName(s string) bool {
	for i, c := range []byte(s) {
		letter := c == '_' || c >= 'a' && c <= 'z' || c >= 'A' && c <= 'Z'
		if !letter && (i == 0 || c < '0' || c > '9') {
			return false
		}
	}
	return s != "" && len(s) <= api.MaxName
}

// isBasic reports whether a name is that of a type; all other names of Types are type variables.
func isBasic(name string) bool { return isOneOf(typeNames)(name) }

func isTypeName(s string) bool {
	variable := strings.TrimPrefix(s, "?")
	return isBasic(s) || isName(variable) && !isBasic(variable)
}
