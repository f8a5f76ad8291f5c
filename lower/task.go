package lower

import (
	"slices"
	"strconv"

	"raddle/api"
	"raddle/check"
)

// spawn makes the start of a task with a block, counted by the counter in a register. The first registers of its body have the values of some; behind them are the locals that the block uses, without some. Code makes what the body does; this waits until the present body is made.
func (b *builder) spawn(counter int, block api.Node, first []int, without []string, code func(t *builder)) {
	captured := b.captured(block, without)
	list := slices.Clone(first)
	for _, x := range captured {
		list = append(list, x.place)
	}
	at := b.add(api.Ins{Op: api.OpSpawn, A: counter, List: list})
	b.waiting = append(b.waiting, func() {
		t := b.task(len(list))
		for i, x := range captured {
			t.declare(x.Name, x.Type, len(first)+i)
		}
		code(t)
		t.finish()
		b.made.Code[at].B = t.at
	})
}

// task returns what makes the next task body of the same procedure.
func (b *builder) task(arguments int) *builder {
	*b.tasks++
	t := b.maker.builder(b.procedure+"_"+strconv.Itoa(*b.tasks), arguments)
	t.procedure, t.tasks = b.procedure, b.tasks
	return t
}

// captured returns the locals that a block uses, in the order of their first uses, without some.
func (b *builder) captured(block api.Node, without []string) []named {
	var visible []string
	for _, x := range b.names {
		if !x.global {
			visible = append(visible, x.Name)
		}
	}
	names := slices.DeleteFunc(check.Free(block, visible), func(name string) bool {
		return slices.Contains(without, name)
	})
	var captured []named
	for _, name := range names {
		captured = append(captured, b.find(name))
	}
	return captured
}

// spawnBlock makes the start of a task that does nothing but a block.
func (b *builder) spawnBlock(counter int, block api.Node) {
	b.spawn(counter, block, nil, nil, func(t *builder) { t.block(block) })
}

func (b *builder) counter() int { return b.into(api.Ins{Op: api.OpCounter}) }

func (b *builder) wait(counter int) { b.add(api.Ins{Op: api.OpWait, A: counter}) }

func (b *builder) begin(n api.Node) { b.spawnBlock(none, n.Kids[0]) }

func (b *builder) cobegin(n api.Node) {
	q := b.counter()
	for _, block := range n.Kids {
		b.spawnBlock(q, block)
	}
	b.wait(q)
}

func (b *builder) sync(n api.Node) {
	q := b.into(api.Ins{Op: api.OpScope})
	b.block(n.Kids[0])
	b.add(api.Ins{Op: api.OpUnscope})
	b.wait(q)
}

func (b *builder) on(n api.Node) {
	h := b.here(n)
	l := b.value(n.Kids[0])
	b.add(api.Ins{Op: api.OpGo, A: l})
	b.block(n.Kids[1])
	b.add(api.Ins{Op: api.OpGo, A: h})
}

func (b *builder) coforall(n api.Node) {
	names, through, block := n.Kids[:n.Num], n.Kids[n.Num], n.Kids[n.Num+1]
	o := b.value(through)
	size := b.size(o)
	q := b.counter()
	b.walk(o, size, b.typeOf(through), func(index []int, v int) {
		first := elements(names, index, v)
		b.spawn(q, block, first, namesOf(names), func(t *builder) {
			t.declareAll(names, []int{0, 1})
			t.block(block)
		})
	})
	b.wait(q)
}

func namesOf(l []api.Node) []string {
	var names []string
	for _, n := range l {
		names = append(names, n.Name)
	}
	return names
}

// pieces is a forall, in parts: its Intents with the names of their locals.
type pieces struct {
	names   []api.Node
	block   api.Node
	intents []api.Node
	locals  []string
}

func (b *builder) forall(n api.Node) {
	f := pieces{names: n.Kids[:n.Num], block: n.Kids[n.Num+1], intents: n.Kids[n.Num+2:]}
	for _, intent := range f.intents {
		f.locals = append(f.locals, intent.Kids[0].Name)
	}
	o := b.value(n.Kids[n.Num])
	p := b.into(api.Ins{Op: api.OpPieces, B: o})
	q := b.counter()
	var lists []int
	for range f.intents {
		lists = append(lists, b.list(p))
	}
	b.repeat(p, func(k int) {
		first := append([]int{o, k}, lists...)
		b.spawn(q, f.block, first, append(namesOf(f.names), f.locals...), func(t *builder) { t.piece(f) })
	})
	b.wait(q)
	for i, intent := range f.intents {
		s, size := b.find(f.locals[i]).place, b.size(lists[i])
		b.walk(lists[i], size, "array1", func(_ []int, v int) { b.operate(s, intent.Name, s, v) })
	}
}

// list makes an array for the values of tasks, of which p has the number.
func (b *builder) list(p int) int {
	one := b.set(1)
	a := b.into(api.Ins{Op: api.OpRange, B: one, C: p})
	d := b.into(api.Ins{Op: api.OpDomain, List: []int{a}})
	return b.into(api.Ins{Op: api.OpArray, B: d})
}

// piece makes what the task of a forall does with its piece: its first registers have what the forall goes through, the number of the piece, and the lists.
func (b *builder) piece(f pieces) {
	const o, k, lists = 0, 1, 2
	l := b.into(api.Ins{Op: api.OpPiece, B: o, C: 0, D: k})
	b.add(api.Ins{Op: api.OpGo, A: l})
	n := b.into(api.Ins{Op: api.OpPiece, B: o, C: 1, D: k})
	for i, intent := range f.intents {
		b.declare(f.locals[i], intentType(intent.Name), b.set(identity(intent.Name)))
	}
	b.repeat(n, func(i int) {
		var index []int
		for dimension := range f.names {
			index = append(index, b.into(api.Ins{Op: api.OpInPiece, B: o, C: dimension, D: k, List: []int{i}}))
		}
		b.declareAll(f.names, index)
		b.block(f.block)
	})
	for i := range f.intents {
		one := b.set(1)
		j := b.into(api.Ins{Op: api.OpBinary, B: k, C: one, Text: "+"})
		b.add(api.Ins{Op: api.OpStore, A: lists + i, B: b.find(f.locals[i]).place, List: []int{j}})
	}
}

// intentType returns the type of the locals that an operator combines.
func intentType(operator string) string {
	if operator == "&&" || operator == "||" {
		return "bool"
	}
	return "int"
}
