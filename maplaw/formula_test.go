package maplaw_test

import (
	"math"
	"math/big"
	"math/rand"
	"slices"
	"strings"
	"testing"

	"raddle/api"
	"raddle/maplaw"
)

func num(n int) api.Node { return api.Node{Op: api.Int, Num: n} }

func name(s string) api.Node { return api.Node{Op: api.Name, Name: s} }

func unary(sign string, a api.Node) api.Node {
	return api.Node{Op: api.Unary, Name: sign, Kids: []api.Node{a}}
}

func binary(a api.Node, sign string, b api.Node) api.Node {
	return api.Node{Op: api.Binary, Name: sign, Kids: []api.Node{a, b}}
}

func cond(a, b, c api.Node) api.Node {
	return api.Node{Op: api.Cond, Kids: []api.Node{a, b, c}}
}

// signs returns the operators of two operands.
func signs() []string { return strings.Fields("+ - * / % == != < <= > >= && ||") }

// edges returns numbers at which results cease to be ints, and some others.
func edges() []int {
	return []int{math.MinInt, math.MinInt + 1, math.MinInt / 2, -3037000500, -4294967296, -7, -2, -1, 0, 1, 2, 7, 3037000499, 3037000500, 4294967296, math.MaxInt / 2, math.MaxInt/2 + 1, math.MaxInt - 1, math.MaxInt}
}

// value returns the value of a formula by large numbers, and whether it has one.
func value(f api.Node, names [5]int) (int, bool) {
	var kids []*big.Int
	if f.Op == api.Cond {
		c, ok := value(f.Kids[0], names)
		switch {
		case !ok:
			return 0, false
		case c != 0:
			return value(f.Kids[1], names)
		}
		return value(f.Kids[2], names)
	}
	for _, kid := range f.Kids {
		n, ok := value(kid, names)
		if !ok {
			return 0, false
		}
		kids = append(kids, big.NewInt(int64(n)))
	}
	result := big.NewInt(int64(f.Num))
	switch f.Op {
	case api.Name:
		result = big.NewInt(int64(names[strings.Index("npilk", f.Name)]))
	case api.Unary:
		result = two(f.Name, kids[0], kids[0])
	case api.Binary:
		result = two(f.Name, kids[0], kids[1])
		if f.Name == "-" {
			result = new(big.Int).Sub(kids[0], kids[1])
		}
	}
	if result == nil || !result.IsInt64() {
		return 0, false
	}
	return int(result.Int64()), true
}

// two returns the result of an operator (- and ! of the first operand alone), or nil.
func two(sign string, a, b *big.Int) *big.Int {
	c, zero := a.Cmp(b), b.Sign() == 0
	truth := map[string]bool{"==": c == 0, "!=": c != 0, "<": c < 0, "<=": c <= 0, ">": c > 0, ">=": c >= 0, "!": a.Sign() == 0, "&&": a.Sign() != 0 && !zero, "||": a.Sign() != 0 || !zero}
	if is, ok := truth[sign]; ok {
		if is {
			return big.NewInt(1)
		}
		return big.NewInt(0)
	}
	if zero && (sign == "/" || sign == "%") {
		return nil
	}
	r := new(big.Int)
	switch sign {
	case "+":
		return r.Add(a, b)
	case "-":
		return r.Neg(a)
	case "*":
		return r.Mul(a, b)
	case "/":
		return r.Quo(a, b)
	}
	return r.Rem(a, b)
}

// evaluated compares the value of a formula.
func evaluated(t *testing.T, f api.Node, names [5]int) {
	t.Helper()
	want, ok := value(f, names)
	wantE := api.OK
	if !ok {
		wantE = maplaw.ErrFault
	}
	if n, e := maplaw.Eval(f, names); n != want || e != wantE {
		t.Errorf("Eval(%s, %v) = %d, %v, want %d, %v", show(f), names, n, e, want, wantE)
	}
}

// show writes a tree with all its parentheses.
func show(f api.Node) string {
	switch {
	case f.Op == api.Int:
		return big.NewInt(int64(f.Num)).String()
	case f.Op == api.Name:
		return f.Name
	case f.Op == api.Unary && len(f.Kids) == 1:
		return f.Name + show(f.Kids[0])
	case f.Op == api.Binary && len(f.Kids) == 2:
		return "(" + show(f.Kids[0]) + f.Name + show(f.Kids[1]) + ")"
	case f.Op == api.Cond && len(f.Kids) == 3:
		return "[" + show(f.Kids[0]) + "?" + show(f.Kids[1]) + ":" + show(f.Kids[2]) + "]"
	}
	return "?"
}

// TestOperators compares all operators with all numbers at which they may have faults, as numbers and as names.
func TestOperators(t *testing.T) {
	for _, a := range edges() {
		evaluated(t, num(a), [5]int{})
		for _, sign := range []string{"-", "!"} {
			evaluated(t, unary(sign, num(a)), [5]int{})
			evaluated(t, unary(sign, name("l")), [5]int{3: a})
		}
		for i, letter := range []string{"n", "p", "i", "l", "k"} {
			names := [5]int{3, 3, 3, 3, 3}
			names[i] = a
			evaluated(t, name(letter), names)
		}
		for _, b := range edges() {
			for _, sign := range signs() {
				evaluated(t, binary(num(a), sign, num(b)), [5]int{})
				evaluated(t, binary(name("k"), sign, name("i")), [5]int{2: b, 4: a})
			}
		}
	}
	for a := -9; a <= 9; a++ {
		for b := -9; b <= 9; b++ {
			for _, sign := range signs() {
				evaluated(t, binary(num(a), sign, num(b)), [5]int{})
			}
		}
	}
}

// TestFaults asks which parts of a formula are evaluated.
func TestFaults(t *testing.T) {
	fault := binary(num(1), "/", num(0))
	for _, c := range []struct {
		f    api.Node
		want int
		e    api.Errno
	}{
		{binary(num(0), "&&", fault), 0, maplaw.ErrFault},
		{binary(num(1), "||", fault), 0, maplaw.ErrFault},
		{binary(fault, "&&", num(0)), 0, maplaw.ErrFault},
		{cond(fault, num(1), num(2)), 0, maplaw.ErrFault},
		{cond(num(0), fault, num(2)), 2, api.OK},
		{cond(num(-1), num(3), fault), 3, api.OK},
		{cond(num(0), num(3), fault), 0, maplaw.ErrFault},
		{cond(num(5), fault, num(3)), 0, maplaw.ErrFault},
		{unary("-", num(math.MinInt)), 0, maplaw.ErrFault},
		{unary("!", unary("!", num(7))), 1, api.OK},
		{binary(num(math.MinInt), "/", num(-1)), 0, maplaw.ErrFault},
		{binary(num(math.MinInt), "%", num(-1)), 0, api.OK},
		{binary(num(-7), "/", num(2)), -3, api.OK},
		{binary(num(-7), "%", num(2)), -1, api.OK},
		{binary(num(7), "%", num(-2)), 1, api.OK},
	} {
		if n, e := maplaw.Eval(c.f, [5]int{}); n != c.want || e != c.e {
			t.Errorf("Eval(%s) = %d, %v, want %d, %v", show(c.f), n, e, c.want, c.e)
		}
	}
}

// chance makes formulas.
type chance struct{ *rand.Rand }

// formula returns a formula with some of the letters.
func (c chance) formula(depth int, letters string) api.Node {
	if depth == 0 || c.Intn(6) == 0 {
		if c.Intn(2) == 0 {
			return name(string(letters[c.Intn(len(letters))]))
		}
		if c.Intn(12) == 0 {
			return num(edges()[c.Intn(len(edges()))])
		}
		return num(c.Intn(6) - 1)
	}
	a, b := c.formula(depth-1, letters), c.formula(depth-1, letters)
	switch c.Intn(8) {
	case 0:
		return unary([]string{"-", "!"}[c.Intn(2)], a)
	case 1, 2:
		return cond(a, b, c.formula(depth-1, letters))
	}
	return binary(a, signs()[c.Intn(13)], b)
}

// TestFormulas compares formulas of all operators, also behind changes of names that they do not have, and behind a condition that is known.
func TestFormulas(t *testing.T) {
	c := chance{rand.New(rand.NewSource(6))}
	for range 4000 {
		f := c.formula(4, "npilk")
		var names [5]int
		for i := range names {
			names[i] = c.Intn(9) - 3
		}
		evaluated(t, f, names)
		evaluated(t, cond(num(c.Intn(2)*3), f, name("p")), names)
		g := c.formula(4, "pl")
		first, e := maplaw.Eval(g, names)
		names[0], names[2], names[4] = 1000, math.MinInt, c.Intn(9)
		if second, e2 := maplaw.Eval(g, names); first != second || e != e2 {
			t.Errorf("%s is %d, %v, and for other names %d, %v", show(g), first, e, second, e2)
		}
	}
}

// sum returns a formula with a number of nodes that is odd, of a small depth.
func sum(nodes int) api.Node {
	if nodes == 1 {
		return num(1)
	}
	left := (nodes - 1) / 2
	if left%2 == 0 {
		left--
	}
	return binary(sum(left), "+", sum(nodes-1-left))
}

// deep returns a formula of a depth.
func deep(depth int) api.Node {
	f := num(1)
	for range depth - 1 {
		f = unary("-", f)
	}
	return f
}

// wrongs returns trees that are no formulas, with their errors.
func wrongs() map[string]struct {
	f api.Node
	e api.Errno
} {
	type row = struct {
		f api.Node
		e api.Errno
	}
	form := func(f api.Node) row { return row{f, maplaw.ErrFormula} }
	l := map[string]row{
		"zero":               form(api.Node{}),
		"201 nodes":          {sum(201), api.ErrCount},
		"202 nodes":          {unary("-", sum(201)), api.ErrCount},
		"depth 31":           {deep(31), api.ErrDepth},
		"depth 200":          {deep(200), api.ErrDepth},
		"depth 201":          {deep(201), api.ErrCount},
		"many and deep":      {binary(deep(40), "+", sum(199)), api.ErrCount},
		"many and wrong":     {binary(api.Node{}, "+", sum(199)), api.ErrCount},
		"deep and wrong":     {unary("?", deep(30)), api.ErrDepth},
		"deep, wrong inside": {binary(deep(30), "+", api.Node{}), api.ErrDepth},
		"wide":               {api.Node{Op: api.Int, Kids: make([]api.Node, 200)}, api.ErrCount},
		"wide, not too wide": form(api.Node{Op: api.Int, Kids: make([]api.Node, 199)}),
		"Int with a name":    form(api.Node{Op: api.Int, Name: "n"}),
		"Int with a kid":     form(api.Node{Op: api.Int, Kids: []api.Node{num(1)}}),
		"Name with a number": form(api.Node{Op: api.Name, Name: "n", Num: 1}),
		"Name with a kid":    form(api.Node{Op: api.Name, Name: "n", Kids: []api.Node{num(1)}}),
		"Name without name":  form(name("")),
		"two names":          form(name("np")),
		"another name":       form(name("x")),
		"a large name":       form(name("N")),
		"a byte":             form(name("\xff")),
		"Unary +":            form(unary("+", num(1))),
		"Unary without sign": form(unary("", num(1))),
		"Unary of two":       form(api.Node{Op: api.Unary, Name: "-", Kids: []api.Node{num(1), num(1)}}),
		"Unary of nothing":   form(api.Node{Op: api.Unary, Name: "-"}),
		"Unary, a number":    form(api.Node{Op: api.Unary, Name: "-", Num: 2, Kids: []api.Node{num(1)}}),
		"Unary - !":          form(unary("- !", num(1))),
		"Binary !":           form(binary(num(1), "!", num(1))),
		"Binary min":         form(binary(num(1), "min", num(1))),
		"Binary + -":         form(binary(num(1), "+ -", num(1))),
		"Binary =":           form(binary(num(1), "=", num(1))),
		"Binary &":           form(binary(num(1), "&", num(1))),
		"Binary no sign":     form(binary(num(1), "", num(1))),
		"Binary of one":      form(api.Node{Op: api.Binary, Name: "+", Kids: []api.Node{num(1)}}),
		"Binary of three":    form(api.Node{Op: api.Binary, Name: "+", Kids: []api.Node{num(1), num(1), num(1)}}),
		"Binary, a number":   form(api.Node{Op: api.Binary, Name: "+", Num: -1, Kids: []api.Node{num(1), num(1)}}),
		"Cond of two":        form(api.Node{Op: api.Cond, Kids: []api.Node{num(1), num(1)}}),
		"Cond of four":       form(api.Node{Op: api.Cond, Kids: make([]api.Node, 4)}),
		"Cond with a name":   form(api.Node{Op: api.Cond, Name: "n", Kids: []api.Node{num(1), num(1), num(1)}}),
		"Cond with a number": form(api.Node{Op: api.Cond, Num: 1, Kids: []api.Node{num(1), num(1), num(1)}}),
		"Cond, wrong part":   form(cond(num(1), num(1), api.Node{Op: api.Bool, Num: 1})),
	}
	for _, op := range []int{api.Bool, api.Str, api.RangeOf, api.Call, api.Here, api.Type, api.Var, -1, 0, 1000, math.MinInt} {
		l["Op "+show(num(op))] = form(api.Node{Op: op})
		l["Op within "+show(num(op))] = form(unary("-", api.Node{Op: op}))
	}
	return l
}

// TestWrongFormulas hands trees that are no formulas to Eval and, at each place of a scheme, to Check.
func TestWrongFormulas(t *testing.T) {
	for what, w := range wrongs() {
		if n, e := maplaw.Eval(w.f, [5]int{1, 2, 3, 4, 5}); n != 0 || e != w.e {
			t.Errorf("%s: Eval = %d, %v, want %v", what, n, e, w.e)
		}
		for i := range 4 {
			l := [4]api.Node{num(1), num(1), num(1), num(1)}
			l[i] = w.f
			if e := maplaw.Check(scheme(l)); e != w.e {
				t.Errorf("%s at %d: Check = %v, want %v", what, i, e, w.e)
			}
			for k := i + 1; k < 4; k++ {
				for _, later := range []api.Node{sum(201), deep(31), {}} {
					l[k] = later
					if e := maplaw.Check(scheme(l)); e != w.e {
						t.Errorf("%s at %d and another one at %d: Check = %v, want %v", what, i, k, e, w.e)
					}
				}
			}
		}
	}
}

// TestGreatestFormulas asks for formulas at the limits.
func TestGreatestFormulas(t *testing.T) {
	for _, c := range []struct {
		f    api.Node
		want int
	}{
		{sum(199), 100},
		{unary("-", sum(199)), -100},
		{deep(30), -1},
		{unary("!", deep(29)), 0},
		{binary(deep(29), "+", sum(169)), 86},
	} {
		if n, e := maplaw.Eval(c.f, [5]int{}); n != c.want || e != api.OK {
			t.Errorf("Eval(%s) = %d, %v, want %d", show(c.f), n, e, c.want)
		}
		if e := maplaw.Check(scheme([4]api.Node{c.f, c.f, c.f, c.f})); e != api.OK {
			t.Errorf("Check of %s = %v", show(c.f), e)
		}
	}
}

// TestEndless asks for trees with more nodes than could be visited.
func TestEndless(t *testing.T) {
	kids := []api.Node{{Op: api.Binary, Name: "+"}, {Op: api.Binary, Name: "+"}}
	kids[0].Kids, kids[1].Kids = kids, kids
	double := num(1)
	for range 29 {
		double = binary(double, "+", double)
	}
	for _, f := range []api.Node{kids[0], double, unary("-", kids[1])} {
		if n, e := maplaw.Eval(f, [5]int{}); n != 0 || e != api.ErrCount {
			t.Errorf("Eval of an endless tree = %d, %v", n, e)
		}
	}
}

// TestEmptyKids asks that a node with an empty list of Kids is one without Kids.
func TestEmptyKids(t *testing.T) {
	f := binary(api.Node{Op: api.Int, Num: 4, Kids: []api.Node{}}, "*", api.Node{Op: api.Name, Name: "k", Kids: []api.Node{}})
	if n, e := maplaw.Eval(f, [5]int{4: 5}); n != 20 || e != api.OK {
		t.Errorf("Eval = %d, %v", n, e)
	}
}

// TestNames asks for the names that the formulas of a scheme may have.
func TestNames(t *testing.T) {
	for i, permitted := range []string{"npi", "npi", "nplk", "npl"} {
		for _, letter := range strings.Split("npilk", "") {
			l := [4]api.Node{num(0), num(0), num(0), num(0)}
			l[i] = cond(num(0), num(1), unary("-", name(letter)))
			want := api.OK
			if !strings.Contains(permitted, letter) {
				want = maplaw.ErrFormula
			}
			if e := maplaw.Check(scheme(l)); e != want {
				t.Errorf("Check with %s in the formula %d = %v, want %v", letter, i, e, want)
			}
		}
	}
}

// scheme returns the scheme of four formulas.
func scheme(l [4]api.Node) maplaw.Scheme {
	return maplaw.Scheme{Owner: l[0], Local: l[1], Global: l[2], Count: l[3]}
}

// formulas returns the four formulas of a scheme.
func formulas(s maplaw.Scheme) []api.Node {
	return []api.Node{s.Owner, s.Local, s.Global, s.Count}
}

// equal reports whether two trees are equal in all fields.
func equal(a, b api.Node) bool {
	return a.Op == b.Op && a.Name == b.Name && a.Num == b.Num && slices.EqualFunc(a.Kids, b.Kids, equal)
}
