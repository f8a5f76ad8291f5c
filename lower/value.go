package lower

import (
	"math"

	"raddle/api"
)

// values has for each Op of an expression what makes its code, and returns its register.
func values() map[int]func(*builder, api.Node) int {
	return map[int]func(*builder, api.Node) int{
		api.Int:        (*builder).constant,
		api.Bool:       (*builder).constant,
		api.Name:       (*builder).name,
		api.Unary:      (*builder).unary,
		api.Binary:     (*builder).binary,
		api.RangeOf:    (*builder).rangeOf,
		api.By:         (*builder).by,
		api.Count:      (*builder).count,
		api.DomainOf:   (*builder).domainOf,
		api.Mapped:     (*builder).mapped,
		api.Index:      (*builder).index,
		api.Call:       (*builder).call,
		api.Field:      (*builder).field,
		api.Method:     (*builder).method,
		api.Here:       (*builder).here,
		api.NumLocales: (*builder).locales,
		api.Reduce:     (*builder).reduce,
		api.Cond:       (*builder).cond,
	}
}

// value makes the code of an expression.
func (b *builder) value(n api.Node) int { return b.maker.values[n.Op](b, n) }

// all makes the code of expressions from the left.
func (b *builder) all(l []api.Node) []int {
	var registers []int
	for _, n := range l {
		registers = append(registers, b.value(n))
	}
	return registers
}

func (b *builder) constant(n api.Node) int { return b.set(n.Num) }

func (b *builder) name(n api.Node) int {
	x := b.find(n.Name)
	if x.global {
		return b.into(api.Ins{Op: api.OpGet, B: x.place})
	}
	return x.place
}

func (b *builder) unary(n api.Node) int {
	l := b.all(n.Kids)
	return b.into(api.Ins{Op: api.OpUnary, B: l[0], Text: n.Name})
}

func (b *builder) binary(n api.Node) int {
	switch n.Name {
	case "&&":
		return b.decided(n, false)
	case "||":
		return b.decided(n, true)
	}
	return b.pair(api.Ins{Op: api.OpBinary, Text: n.Name}, n)
}

// decided makes the code of an expression whose second operand is not asked, if the first one is already what decides.
func (b *builder) decided(n api.Node, by bool) int {
	x := b.value(n.Kids[0])
	r := b.into(api.Ins{Op: api.OpCopy, B: x})
	asked := r
	if by {
		asked = b.into(api.Ins{Op: api.OpUnary, B: r, Text: "!"})
	}
	out := b.unless(asked)
	y := b.value(n.Kids[1])
	b.copyTo(r, y)
	b.leadOn(out)
	return r
}

// pair makes an instruction with the operands B and C.
func (b *builder) pair(i api.Ins, n api.Node) int {
	l := b.all(n.Kids)
	i.B, i.C = l[0], l[1]
	return b.into(i)
}

func (b *builder) rangeOf(n api.Node) int { return b.pair(api.Ins{Op: api.OpRange}, n) }
func (b *builder) by(n api.Node) int      { return b.pair(api.Ins{Op: api.OpBy}, n) }
func (b *builder) count(n api.Node) int   { return b.pair(api.Ins{Op: api.OpCount}, n) }

func (b *builder) domainOf(n api.Node) int {
	l := b.all(n.Kids)
	return b.into(api.Ins{Op: api.OpDomain, List: l})
}

func (b *builder) mapped(n api.Node) int {
	l := b.all(n.Kids)
	i := api.Ins{Op: api.OpMap, B: l[0], D: none}
	switch n.Name {
	case "block":
		i.C = api.Block
	case "cyclic":
		i.C = api.Cyclic
	case "blockcyclic":
		i.C, i.D = api.BlockCyclic, l[1]
	case "hashed":
		i.C = api.Hashed
	}
	return b.into(i)
}

func (b *builder) index(n api.Node) int {
	l := b.all(n.Kids)
	return b.into(api.Ins{Op: api.OpLoad, B: l[0], List: l[1:]})
}

func (b *builder) call(n api.Node) int {
	l := b.all(n.Kids)
	return b.into(api.Ins{Op: api.OpCall, B: b.bodyOf(n.Name), List: l})
}

func (b *builder) field(n api.Node) int {
	l := b.all(n.Kids)
	return b.into(api.Ins{Op: api.OpField, B: l[0], Text: n.Name})
}

func (b *builder) method(n api.Node) int {
	l := b.all(n.Kids)
	i := api.Ins{Op: api.OpOnAtom, A: none, B: l[0], Text: n.Name, List: l[1:]}
	if has(cellOperations, n.Name) {
		i.Op, i.C, i.List = api.OpOnCell, none, nil
		if len(l) > 1 {
			i.C = l[1]
		}
	}
	if has(giving, n.Name) {
		return b.into(i)
	}
	b.add(i)
	return none
}

func (b *builder) here(api.Node) int    { return b.into(api.Ins{Op: api.OpHere}) }
func (b *builder) locales(api.Node) int { return b.into(api.Ins{Op: api.OpLocales}) }

func (b *builder) cond(n api.Node) int {
	c := b.value(n.Kids[0])
	third := b.unless(c)
	x := b.value(n.Kids[1])
	r := b.into(api.Ins{Op: api.OpCopy, B: x})
	out := b.jump(0)
	b.leadOn(third)
	y := b.value(n.Kids[2])
	b.copyTo(r, y)
	b.leadOn(out)
	return r
}

func (b *builder) reduce(n api.Node) int {
	o := b.value(n.Kids[0])
	size := b.size(o)
	s := b.set(identity(n.Name))
	b.walk(o, size, b.typeOf(n.Kids[0]), func(_ []int, v int) { b.operate(s, n.Name, s, v) })
	return s
}

// identity returns the number that changes nothing, if an operator combines it with others.
func identity(operator string) int {
	switch operator {
	case "*", "&&":
		return 1
	case "min":
		return math.MaxInt
	case "max":
		return math.MinInt
	}
	return 0
}
