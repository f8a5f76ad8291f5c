package param_test

import (
	"math"
	"math/big"
	"math/rand"
	"strings"
	"testing"

	"raddle/api"
	"raddle/param"
	"raddle/syntax"
)

// expr reads an expression.
func expr(t *testing.T, text string) api.Node {
	t.Helper()
	n, at, e := syntax.ReadExpr(text)
	if e != api.OK {
		t.Fatalf("%q: %v at %d", text, e, at)
	}
	return n
}

// program reads a program.
func program(t *testing.T, text string) api.Program {
	t.Helper()
	p, at, e := syntax.Program("module M { " + text + " }")
	if e != api.OK {
		t.Fatalf("%q: %v at %d", text, e, at)
	}
	return p
}

func number(n int) api.Node { return api.Node{Op: api.Int, Num: n} }

func truth(b bool) api.Node {
	if b {
		return api.Node{Op: api.Bool, Num: 1}
	}
	return api.Node{Op: api.Bool}
}

// known is a value of the oracle: a big number, a bool, or the numbers of a range.
type known struct {
	n      *big.Int
	b      bool
	span   []int
	isSpan bool
}

// oracle computes expressions with big numbers; nil for no value.
type oracle []param.Const

func (o oracle) eval(e api.Node) *known {
	switch e.Op {
	case api.Int:
		return &known{n: big.NewInt(int64(e.Num))}
	case api.Bool:
		return &known{b: e.Num == 1}
	case api.Name:
		for i := len(o) - 1; i >= 0; i-- {
			if o[i].Name == e.Name {
				return o.eval(o[i].Value)
			}
		}
		return nil
	case api.Unary, api.Binary:
		return o.operation(e)
	case api.Cond:
		c := o.eval(e.Kids[0])
		if c == nil || c.n != nil || c.isSpan {
			return nil
		}
		x := o.eval(e.Kids[1])
		if !c.b {
			x = o.eval(e.Kids[2])
		}
		if x != nil && x.isSpan {
			return nil
		}
		return x
	case api.Field:
		if k := e.Kids[0].Op; e.Name != "size" || k != api.RangeOf && k != api.By && k != api.Count {
			return nil
		}
		if r := o.eval(e.Kids[0]); r != nil {
			return &known{n: big.NewInt(int64(len(r.span)))}
		}
		return nil
	case api.RangeOf, api.By, api.Count:
		return o.span(e)
	}
	return nil
}

// small returns an operand that is a number not far from 0.
func (o oracle) small(e api.Node) (int, bool) {
	x := o.eval(e)
	if x == nil || x.n == nil || !x.n.IsInt64() || x.n.Int64() > 1000000 || x.n.Int64() < -1000000 {
		return 0, false
	}
	return int(x.n.Int64()), true
}

func (o oracle) span(e api.Node) *known {
	if e.Op == api.RangeOf {
		low, ok := o.small(e.Kids[0])
		high, ok2 := o.small(e.Kids[1])
		if !ok || !ok2 {
			return nil
		}
		l := []int{}
		for i := low; i <= high; i++ {
			l = append(l, i)
		}
		return &known{span: l, isSpan: true}
	}
	if k := e.Kids[0].Op; k != api.RangeOf && k != api.By && k != api.Count {
		return nil
	}
	r := o.eval(e.Kids[0])
	n, ok := o.small(e.Kids[1])
	if e.Op == api.Count && !ok {
		return nil // no range has so many numbers
	}
	if r == nil || !ok {
		return nil
	}
	if e.Op == api.Count {
		size := max(n, -n)
		if size > len(r.span) {
			return nil
		}
		if n < 0 {
			return &known{span: r.span[len(r.span)-size:], isSpan: true}
		}
		return &known{span: r.span[:size], isSpan: true}
	}
	if n == 0 {
		return nil
	}
	l := []int{}
	for i := range r.span {
		if n > 0 && i%n == 0 || n < 0 && i%-n == 0 {
			l = append(l, r.span[i])
		}
	}
	return &known{span: l, isSpan: true}
}

func (o oracle) operation(e api.Node) *known {
	a := o.eval(e.Kids[0])
	if a == nil || a.isSpan {
		return nil
	}
	if e.Op == api.Unary {
		switch {
		case e.Name == "-" && a.n != nil:
			return o.exact(new(big.Int).Neg(a.n))
		case e.Name == "!" && a.n == nil:
			return &known{b: !a.b}
		}
		return nil
	}
	if a.n == nil && (e.Name == "&&" && !a.b || e.Name == "||" && a.b) {
		return a
	}
	b := o.eval(e.Kids[1])
	if b == nil || b.isSpan || (a.n == nil) != (b.n == nil) {
		return nil
	}
	if a.n == nil {
		results := map[string]bool{"&&": a.b && b.b, "||": a.b || b.b, "==": a.b == b.b, "!=": a.b != b.b}
		if x, ok := results[e.Name]; ok {
			return &known{b: x}
		}
		return nil
	}
	c := a.n.Cmp(b.n)
	comparisons := map[string]bool{"==": c == 0, "!=": c != 0, "<": c < 0, "<=": c <= 0, ">": c > 0, ">=": c >= 0}
	if x, ok := comparisons[e.Name]; ok {
		return &known{b: x}
	}
	switch e.Name {
	case "+":
		return o.exact(new(big.Int).Add(a.n, b.n))
	case "-":
		return o.exact(new(big.Int).Sub(a.n, b.n))
	case "*":
		return o.exact(new(big.Int).Mul(a.n, b.n))
	}
	if b.n.Sign() == 0 || e.Name != "/" && e.Name != "%" {
		return nil
	}
	q, r := new(big.Int).QuoRem(a.n, b.n, new(big.Int))
	if e.Name == "%" {
		return o.exact(r)
	}
	return o.exact(q)
}

func (o oracle) exact(n *big.Int) *known {
	if !n.IsInt64() {
		return nil
	}
	return &known{n: n}
}

// node returns the value of an expression as a node, and whether there is one.
func (o oracle) node(e api.Node) (api.Node, bool) {
	x := o.eval(e)
	switch {
	case x == nil || x.isSpan:
		return api.Node{}, false
	case x.n == nil:
		return truth(x.b), true
	}
	return number(int(x.n.Int64())), true
}

// trees makes expressions of ints and bools.
type trees struct{ *rand.Rand }

func (r trees) pick(words string) string {
	l := strings.Fields(words)
	return l[r.Intn(len(l))]
}

func (r trees) leaf(kind string) api.Node {
	names := "k m x y"
	if kind == "bool" {
		names = "b c x y"
	}
	switch {
	case r.Intn(3) == 0:
		return api.Node{Op: api.Name, Name: r.pick(names)}
	case kind == "bool":
		return truth(r.Intn(2) == 0)
	}
	return number([]int{0, 1, 2, 3, -1, -2, -7, 10, math.MaxInt, math.MinInt, math.MinInt + 1, 3037000500, -3037000500, 1000001, r.Intn(20) - 10}[r.Intn(15)])
}

func (r trees) expr(kind string, depth int) api.Node {
	if r.Intn(25) == 0 {
		kind = r.pick("int bool range")
	}
	if kind != "range" && (depth <= 0 || r.Intn(6) == 0) {
		return r.leaf(kind)
	}
	e := func(kind string) api.Node { return r.expr(kind, depth-1) }
	n := func(op int, name string, kids ...api.Node) api.Node { return api.Node{Op: op, Name: name, Kids: kids} }
	switch kind {
	case "int":
		switch r.Intn(6) {
		case 0:
			return n(api.Unary, "-", e("int"))
		case 1:
			return n(api.Cond, "", e("bool"), e("int"), e("int"))
		case 2:
			return n(api.Field, "size", e("range"))
		case 3:
			return []api.Node{n(api.Call, "f", e("int"), e("bool"), api.Node{Op: api.Type, Name: "int"}), {Op: api.Here}, n(api.Field, "low", e("range"))}[r.Intn(3)]
		}
		return n(api.Binary, r.pick("+ - * / %"), e("int"), e("int"))
	case "bool":
		switch r.Intn(5) {
		case 0:
			return n(api.Unary, "!", e("bool"))
		case 1, 2:
			return n(api.Binary, r.pick("&& || == !="), e("bool"), e("bool"))
		}
		return n(api.Binary, r.pick("== != < <= > >="), e("int"), e("int"))
	}
	small := func() api.Node { return number(r.Intn(14) - 4) }
	if depth <= 0 || r.Intn(2) == 0 {
		return n(api.RangeOf, "", small(), []api.Node{small(), e("int")}[r.Intn(2)])
	}
	switch r.Intn(8) {
	case 0:
		return n(api.Cond, "", e("bool"), e("range"), e("range"))
	case 1:
		return n(api.By, "", e("range"), e("int"))
	}
	return n([]int{api.By, api.Count}[r.Intn(2)], "", e("range"), small())
}

func (r trees) consts() []param.Const {
	var l []param.Const
	for range r.Intn(5) {
		name := r.pick("k m b c z")
		v := number(r.Intn(9) - 4)
		if strings.Contains("b c", name) != (r.Intn(20) == 0) {
			v = truth(r.Intn(2) == 0)
		}
		l = append(l, param.Const{Name: name, Value: v})
	}
	return l
}
