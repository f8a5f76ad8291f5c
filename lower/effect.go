package lower

import (
	"slices"
	"strings"

	"raddle/api"
)

// effects has for each Op of a statement what makes its code.
func effects() map[int]func(*builder, api.Node) {
	return map[int]func(*builder, api.Node){
		api.Var:      (*builder).local,
		api.Assign:   (*builder).assign,
		api.If:       (*builder).choose,
		api.While:    (*builder).while,
		api.For:      (*builder).loop,
		api.Forall:   (*builder).forall,
		api.Coforall: (*builder).coforall,
		api.Begin:    (*builder).begin,
		api.Cobegin:  (*builder).cobegin,
		api.Sync:     (*builder).sync,
		api.On:       (*builder).on,
		api.Return:   (*builder).leave,
		api.Do:       (*builder).do,
		api.Write:    (*builder).write,
		api.Assert:   (*builder).assert,
		api.BlockOf:  (*builder).block,
	}
}

func (b *builder) statements(l []api.Node) {
	for _, n := range l {
		b.maker.effects[n.Op](b, n)
	}
}

// block makes the code of a block, whose locals are visible in it alone.
func (b *builder) block(n api.Node) {
	visible := len(b.names)
	b.statements(n.Kids)
	b.names = b.names[:visible]
}

func (b *builder) local(n api.Node) {
	kind, r := b.variable(n)
	b.declare(n.Name, kind, r)
}

// variable makes the code of a Var, and returns its type and its register.
func (b *builder) variable(n api.Node) (kind string, r int) {
	last := n.Kids[len(n.Kids)-1]
	if n.Num&api.HasInit != 0 {
		t := b.value(last)
		return b.typeOf(last), b.into(api.Ins{Op: api.OpCopy, B: t})
	}
	if last.Op == api.Array {
		d := b.value(last.Kids[0])
		return arrayOver(b.typeOf(last.Kids[0])), b.into(api.Ins{Op: api.OpArray, B: d})
	}
	switch last.Name {
	case "sync":
		r = b.into(api.Ins{Op: api.OpCell})
	case "atomic":
		r = b.into(api.Ins{Op: api.OpAtomic})
	default:
		r = b.set(0)
	}
	return last.Name, r
}

func arrayOver(domain string) string {
	if domain == "domain1" {
		return "array1"
	}
	return "array2"
}

func (b *builder) assign(n api.Node) {
	target, operator := n.Kids[0], strings.TrimSuffix(n.Name, "=")
	if target.Op == api.Index {
		b.store(b.all(target.Kids), operator, n.Kids[1])
		return
	}
	t, x := b.value(n.Kids[1]), b.find(target.Name)
	switch {
	case x.global:
		if operator != "" {
			u := b.into(api.Ins{Op: api.OpGet, B: x.place})
			t = b.into(api.Ins{Op: api.OpBinary, B: u, C: t, Text: operator})
		}
		b.add(api.Ins{Op: api.OpPut, A: x.place, B: t})
	case operator != "":
		b.operate(x.place, operator, x.place, t)
	default:
		b.copyTo(x.place, t)
	}
}

// store makes the code of an assignment to an element, whose registers are those of its array and its index.
func (b *builder) store(element []int, operator string, value api.Node) {
	array, index := element[0], element[1:]
	t := b.value(value)
	if operator != "" {
		u := b.into(api.Ins{Op: api.OpLoad, B: array, List: slices.Clone(index)})
		t = b.into(api.Ins{Op: api.OpBinary, B: u, C: t, Text: operator})
	}
	b.add(api.Ins{Op: api.OpStore, A: array, B: t, List: index})
}

func (b *builder) choose(n api.Node) {
	c := b.value(n.Kids[0])
	other := b.unless(c)
	b.block(n.Kids[1])
	if len(n.Kids) == 2 {
		b.leadOn(other)
		return
	}
	out := b.jump(0)
	b.leadOn(other)
	b.block(n.Kids[2])
	b.leadOn(out)
}

func (b *builder) while(n api.Node) {
	begin := b.end()
	c := b.value(n.Kids[0])
	out := b.unless(c)
	b.block(n.Kids[1])
	b.jump(begin)
	b.leadOn(out)
}

func (b *builder) loop(n api.Node) {
	names, through, block := n.Kids[:n.Num], n.Kids[n.Num], n.Kids[n.Num+1]
	o := b.value(through)
	size, visible := b.size(o), len(b.names)
	b.walk(o, size, b.typeOf(through), func(index []int, v int) {
		b.declareAll(names, elements(names, index, v))
		b.block(block)
	})
	b.names = b.names[:visible]
}

// elements returns the registers of the names of a loop: of two they have the index.
func elements(names []api.Node, index []int, v int) []int {
	if len(names) == 1 {
		return []int{v}
	}
	return index
}

// declareAll declares the names of a loop.
func (b *builder) declareAll(names []api.Node, registers []int) {
	for i, n := range names {
		b.declare(n.Name, "int", registers[i])
	}
}

func (b *builder) leave(n api.Node) {
	r := none
	if len(n.Kids) > 0 {
		r = b.value(n.Kids[0])
	}
	b.add(api.Ins{Op: api.OpReturn, A: r})
}

func (b *builder) do(n api.Node) { b.value(n.Kids[0]) }

func (b *builder) write(n api.Node) {
	line := api.Ins{Op: api.OpWrite}
	for _, k := range n.Kids {
		if k.Op == api.Str {
			line.Text += k.Name
			continue
		}
		r := b.value(k)
		line.Text += "\x00"
		line.List = append(line.List, r)
	}
	b.add(line)
}

func (b *builder) assert(n api.Node) {
	r := b.value(n.Kids[0])
	b.add(api.Ins{Op: api.OpAssert, A: r})
}
