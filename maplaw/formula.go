package maplaw

import (
	"math"
	"slices"
	"strings"

	"raddle/api"
)

// The limits of a formula.
const (
	maxNodes = 200
	maxDepth = 30
)

// The names of formulas, in the order of their values, and the signs of operators, those of two operands in the order of their functions.
const (
	letters = "npilk"
	unaries = "- !"
	signs   = "+ - * / % == != < <= > >= && ||"
)

// The places of the values of names.
const (
	atN = 0
	atP = 1
	atI = 2
	atL = 3
	atK = 4
)

// values has the values of the names n, p, i, l, k.
type values [5]int

// formula is a compiled formula. It panics where the formula has a fault.
type formula func(values) int

// value returns the value of a formula, and whether it has one.
func (f formula) value(v values) (n int, ok bool) {
	defer func() { ok = recover() == nil }()
	return f(v), true
}

// checkFormula returns the error of a formula that may have the permitted names.
func checkFormula(f api.Node, permitted string) api.Errno {
	switch {
	case nodes(f, maxNodes) > maxNodes:
		return api.ErrCount
	case depth(f) > maxDepth:
		return api.ErrDepth
	case !formed(f, permitted):
		return ErrFormula
	}
	return api.OK
}

// nodes returns the number of nodes of a tree, or most + 1, if there are more than most: nodes that share their Kids may have no end.
func nodes(f api.Node, most int) int {
	n := 1
	for _, kid := range f.Kids {
		if n > most {
			break
		}
		n += nodes(kid, most-n)
	}
	return n
}

// depth returns how many nodes of a tree are within each other.
func depth(f api.Node) int {
	deepest := 0
	for _, kid := range f.Kids {
		deepest = max(deepest, depth(kid))
	}
	return deepest + 1
}

// formed reports whether a tree is a formula with the permitted names.
func formed(f api.Node, permitted string) bool {
	for _, kid := range f.Kids {
		if !formed(kid, permitted) {
			return false
		}
	}
	numbered := f.Op == api.Int || f.Num == 0
	return numbered && named(f, permitted) && len(f.Kids) == operands(f.Op)
}

// named reports whether a node has a name that it may have; one of a kind that formulas do not have has none.
func named(f api.Node, permitted string) bool {
	switch f.Op {
	case api.Int, api.Cond:
		return f.Name == ""
	case api.Name:
		return len(f.Name) == 1 && strings.Contains(permitted, f.Name)
	case api.Unary:
		return slices.Contains(strings.Fields(unaries), f.Name)
	case api.Binary:
		return slices.Contains(strings.Fields(signs), f.Name)
	}
	return false
}

// operands returns how many Kids a node of a formula has.
func operands(op int) int {
	switch op {
	case api.Unary:
		return 1
	case api.Binary:
		return 2
	case api.Cond:
		return 3
	}
	return 0
}

// compile returns what gives the values of a formula without an error.
func compile(f api.Node) formula {
	var kids []formula
	for _, kid := range f.Kids {
		kids = append(kids, compile(kid))
	}
	switch f.Op {
	case api.Int:
		return func(values) int { return f.Num }
	case api.Name:
		place := strings.Index(letters, f.Name)
		return func(v values) int { return v[place] }
	case api.Unary:
		if f.Name == "!" {
			return func(v values) int { return truth(kids[0](v) == 0) }
		}
		return func(v values) int { return minus(0, kids[0](v)) }
	case api.Binary:
		apply := operators()[slices.Index(strings.Fields(signs), f.Name)]
		return func(v values) int { return apply(kids[0](v), kids[1](v)) }
	}
	return func(v values) int {
		if kids[0](v) != 0 {
			return kids[1](v)
		}
		return kids[2](v)
	}
}

// operators returns the functions of the operators with two operands, in the order of their signs.
func operators() [13]func(a, b int) int {
	return [...]func(a, b int) int{
		plus, minus, times, quotient, remainder,
		func(a, b int) int { return truth(a == b) },
		func(a, b int) int { return truth(a != b) },
		func(a, b int) int { return truth(a < b) },
		func(a, b int) int { return truth(a <= b) },
		func(a, b int) int { return truth(a > b) },
		func(a, b int) int { return truth(a >= b) },
		func(a, b int) int { return truth(a != 0 && b != 0) },
		func(a, b int) int { return truth(a != 0 || b != 0) },
	}
}

// truth returns 1 for what is true, and otherwise 0.
func truth(b bool) int {
	if b {
		return 1
	}
	return 0
}

// sound leaves the formula with a fault, if a result is not one.
func sound(ok bool) {
	if !ok {
		panic(ErrFault)
	}
}

func plus(a, b int) int {
	sum := a + b
	sound((sum < a) == (b < 0))
	return sum
}

func minus(a, b int) int {
	difference := a - b
	sound((difference > a) == (b < 0))
	return difference
}

func times(a, b int) int {
	product := a * b
	sound(a == 0 || product/a == b && (a != -1 || b != math.MinInt))
	return product
}

func quotient(a, b int) int {
	sound(b != 0 && (a != math.MinInt || b != -1))
	return a / b
}

// remainder has a result for -1, too, for which the quotient may be no int.
func remainder(a, b int) int {
	sound(b != 0)
	return a % b
}
