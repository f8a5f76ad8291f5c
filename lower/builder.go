package lower

import (
	"slices"

	"raddle/api"
	"raddle/check"
)

// named is a global or a local; its place is its number, or its register.
type named struct {
	check.Typed
	place  int
	global bool
}

// builder makes the body with a number, which stands in a procedure that has so many task bodies so far. Names are the globals, and the locals that are visible; waiting makes the bodies of the tasks that were met.
type builder struct {
	*maker
	at        int
	procedure string
	tasks     *int
	names     []named
	made      api.Body
	waiting   []func()
}

// add puts an instruction at the end, and returns its number.
func (b *builder) add(i api.Ins) int {
	b.instructions++
	limit(b.instructions, api.MaxCode)
	b.made.Code = append(b.made.Code, i)
	return len(b.made.Code) - 1
}

// fresh returns a new register.
func (b *builder) fresh() int {
	b.made.Registers++
	limit(b.made.Registers, maxRegisters)
	return b.made.Registers - 1
}

// into puts an instruction at the end that writes a new register, and returns this.
func (b *builder) into(i api.Ins) int {
	i.A = b.fresh()
	b.add(i)
	return i.A
}

func (b *builder) set(n int) int { return b.into(api.Ins{Op: api.OpSet, B: n}) }

func (b *builder) copyTo(r, from int) { b.add(api.Ins{Op: api.OpCopy, A: r, B: from}) }

// operate sets a register to what an operator gives of two.
func (b *builder) operate(r int, operator string, x, y int) {
	b.add(api.Ins{Op: api.OpBinary, A: r, B: x, C: y, Text: operator})
}

// end is the number of the next instruction.
func (b *builder) end() int { return len(b.made.Code) }

// leadOn lets a jump lead to the next instruction.
func (b *builder) leadOn(jump int) { b.made.Code[jump].C = b.end() }

// unless puts an instruction at the end that jumps, if a register is 0; leadOn says where to.
func (b *builder) unless(r int) int { return b.add(api.Ins{Op: api.OpIf, A: r}) }

func (b *builder) jump(to int) int { return b.add(api.Ins{Op: api.OpJump, C: to}) }

func (b *builder) declare(name, kind string, register int) {
	b.names = append(b.names, named{check.Typed{Name: name, Type: kind}, register, false})
}

// find returns what a name means.
func (b *builder) find(name string) named {
	for _, x := range slices.Backward(b.names) {
		if x.Name == name {
			return x
		}
	}
	return named{}
}

// typeOf returns the type of an expression; that of a name needs no look at the program.
func (b *builder) typeOf(n api.Node) string {
	if n.Op == api.Name {
		return b.find(n.Name).Type
	}
	var visible []check.Typed
	for _, x := range b.names {
		visible = append(visible, x.Typed)
	}
	kind, _ := check.TypeOf(b.p, n, visible)
	return kind
}

// finish ends a body, and makes those of its tasks: the body of each one is whole ahead of that of the next one.
func (b *builder) finish() {
	b.add(api.Ins{Op: api.OpReturn, A: none})
	for _, work := range b.waiting {
		work()
	}
	b.bodies[b.at] = b.made
}

// repeat makes a loop that counts k from 0 to n - 1.
func (b *builder) repeat(n int, done func(k int)) {
	k, one := b.set(0), b.set(1)
	begin, c := b.end(), b.fresh()
	b.operate(c, "<", k, n)
	out := b.unless(c)
	done(k)
	b.operate(k, "+", k, one)
	b.jump(begin)
	b.leadOn(out)
}

// walk makes a loop through an object of a type with n positions; done is handed the registers of the index and of the value.
func (b *builder) walk(o, n int, kind string, done func(index []int, value int)) {
	b.repeat(n, func(k int) {
		index := []int{b.fresh()}
		if kind == "domain2" || kind == "array2" {
			index = append(index, b.fresh())
		}
		for dimension, x := range index {
			b.add(api.Ins{Op: api.OpNth, A: x, B: o, C: dimension, D: k})
		}
		value := index[0]
		if kind == "array1" || kind == "array2" {
			value = b.into(api.Ins{Op: api.OpLoad, B: o, List: slices.Clone(index)})
		}
		done(index, value)
	})
}

func (b *builder) size(o int) int { return b.into(api.Ins{Op: api.OpField, B: o, Text: "size"}) }
