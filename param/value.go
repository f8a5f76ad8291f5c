package param

import (
	"math"
	"math/bits"

	"raddle/api"
	"raddle/span"
)

// Kinds of values.
const (
	intKind = iota
	boolKind
	spanKind
)

// value is an int, a bool (0 or 1), or a range, which is a value only as an operand.
type value struct {
	kind, number int
	span         api.Range
}

func number(n int) *value { return &value{kind: intKind, number: n} }

func truth(b bool) *value {
	if b {
		return &value{kind: boolKind, number: 1}
	}
	return &value{kind: boolKind}
}

// stands reports whether there is a value that a node can have.
func (v *value) stands() bool { return v != nil && v.kind != spanKind }

func (v *value) typeName() string {
	if v.kind == boolKind {
		return "bool"
	}
	return "int"
}

func (v *value) node() api.Node {
	if v.kind == boolKind {
		return api.Node{Op: api.Bool, Num: v.number}
	}
	return api.Node{Op: api.Int, Num: v.number}
}

// evaluator has the operations by their signs, and by the kinds of their operands.
type evaluator struct {
	numbers map[string]func(a, b int) *value
	truths  map[string]func(a, b int) *value
	spans   map[int]func(r api.Range, n int) (api.Range, api.Errno)
}

func newEvaluator() *evaluator {
	return &evaluator{
		numbers: map[string]func(a, b int) *value{
			"+": sum,
			"-": func(a, b int) *value {
				if b == math.MinInt {
					return exact(a < 0, a-b)
				}
				return sum(a, -b)
			},
			"*":  product,
			"/":  func(a, b int) *value { return exact(b != 0 && (a != math.MinInt || b != -1), a/divisor(b)) },
			"%":  func(a, b int) *value { return exact(b != 0, a%divisor(b)) },
			"==": func(a, b int) *value { return truth(a == b) },
			"!=": func(a, b int) *value { return truth(a != b) },
			"<":  func(a, b int) *value { return truth(a < b) },
			"<=": func(a, b int) *value { return truth(a <= b) },
			">":  func(a, b int) *value { return truth(a > b) },
			">=": func(a, b int) *value { return truth(a >= b) },
		},
		truths: map[string]func(a, b int) *value{
			"==": func(a, b int) *value { return truth(a == b) },
			"!=": func(a, b int) *value { return truth(a != b) },
			"&&": func(a, b int) *value { return truth(a*b == 1) },
			"||": func(a, b int) *value { return truth(a+b > 0) },
		},
		spans: map[int]func(r api.Range, n int) (api.Range, api.Errno){api.By: span.By, api.Count: span.Count},
	}
}

// exact returns a number, if it is the result.
func exact(ok bool, n int) *value {
	if !ok {
		return nil
	}
	return number(n)
}

// divisor returns what can be divided by in the place of 0.
func divisor(b int) int {
	if b == 0 {
		return 1
	}
	return b
}

func sum(a, b int) *value {
	c := a + b
	return exact((c > a) == (b > 0), c)
}

func product(a, b int) *value {
	high, low := bits.Mul64(magnitude(a), magnitude(b))
	limit := uint64(math.MaxInt)
	if (a < 0) != (b < 0) {
		limit++
	}
	return exact(high == 0 && low <= limit, a*b)
}

func magnitude(n int) uint64 {
	if n < 0 {
		return -uint64(n)
	}
	return uint64(n)
}

// value returns the value of an expression of the right shape, nil for none.
func (v *evaluator) value(n api.Node, c *constant) *value {
	if n.Op == api.Name {
		return c.value(n.Name)
	}
	return v.operate(n, func(i int) *value { return v.value(n.Kids[i], c) })
}

// operate returns the value of an expression whose operands have values that are asked for one by one.
func (v *evaluator) operate(n api.Node, operand func(i int) *value) *value {
	switch n.Op {
	case api.Int:
		return number(n.Num)
	case api.Bool:
		return truth(n.Num == 1)
	case api.Cond:
		return v.choose(operand)
	case api.Unary, api.Field:
		if a := operand(0); a != nil {
			return v.unary(n, a)
		}
	case api.Binary, api.RangeOf, api.By, api.Count:
		a := operand(0)
		if a == nil {
			return nil
		}
		if n.Op == api.Binary && decides(n.Name, a) {
			return a
		}
		if b := operand(1); b != nil {
			return v.binary(n, a, b)
		}
	}
	return nil
}

func (v *evaluator) choose(operand func(i int) *value) *value {
	c := operand(0)
	if c == nil || c.kind != boolKind {
		return nil
	}
	if chosen := operand(2 - c.number); chosen.stands() {
		return chosen
	}
	return nil
}

// decides reports whether the first operand of && or || is the result.
func decides(sign string, a *value) bool {
	return a.kind == boolKind && (sign == "&&" && a.number == 0 || sign == "||" && a.number == 1)
}

func (v *evaluator) unary(n api.Node, a *value) *value {
	switch {
	case n.Op == api.Field && n.Name == "size" && a.kind == spanKind:
		return number(span.Size(a.span))
	case n.Op == api.Unary && n.Name == "-" && a.kind == intKind:
		return v.numbers["-"](0, a.number)
	case n.Op == api.Unary && n.Name == "!" && a.kind == boolKind:
		return truth(a.number == 0)
	}
	return nil
}

func (v *evaluator) binary(n api.Node, a, b *value) *value {
	if n.Op == api.By || n.Op == api.Count {
		if a.kind != spanKind || b.kind != intKind {
			return nil
		}
		return ranged(v.spans[n.Op](a.span, b.number))
	}
	if a.kind != b.kind || a.kind == spanKind {
		return nil
	}
	if n.Op == api.RangeOf {
		if a.kind != intKind {
			return nil
		}
		return ranged(span.Of(a.number, b.number, 1))
	}
	operations := v.numbers
	if a.kind == boolKind {
		operations = v.truths
	}
	if does := operations[n.Name]; does != nil {
		return does(a.number, b.number)
	}
	return nil
}

func ranged(r api.Range, e api.Errno) *value {
	if e != api.OK {
		return nil
	}
	return &value{kind: spanKind, span: r}
}
