package lower_test

import (
	"math/rand"
	"slices"
	"testing"

	"raddle/api"
	"raddle/lower"
)

// TestRight asks P17.2 to P17.4 of the code of random programs.
func TestRight(t *testing.T) {
	made(t, 18, 200, func(text string, _, p api.Program) {
		c := codeOf(t, p)
		s, e := lower.Text(c)
		if e != api.OK {
			t.Fatalf("%s: Text = %v", text, e)
		}
		if got, at, e := lower.Read(s); at != 0 || e != api.OK || !same(got, c) {
			t.Fatalf("%s: Read = %d, %v", text, at, e)
		}
		for _, b := range c.Bodies {
			if at := unwritten(b); at >= 0 {
				t.Fatalf("%s: %s: the instruction %d reads what was not written", text, short(b), at)
			}
		}
		other := codeOf(t, renamed(p))
		for i := range c.Bodies {
			other.Bodies[i].Name = c.Bodies[i].Name
		}
		if !same(c, other) {
			t.Fatalf("%s: with other names it has other code", text)
		}
	})
}

// unwritten returns an instruction that on some way reads a register that was not written, -1 for none.
func unwritten(b api.Body) int {
	known := make([][]bool, len(b.Code)) // the registers that are written on each way to an instruction
	known[0] = make([]bool, b.Registers)
	for r := range b.Arguments {
		known[0][r] = true
	}
	for work := []int{0}; len(work) > 0; {
		at := work[0]
		work = work[1:]
		i := b.Code[at]
		behind := slices.Clone(known[at])
		if _, writes := lower.Uses(i); writes >= 0 {
			behind[writes] = true
		}
		next := []int{at + 1}
		switch i.Op {
		case api.OpJump:
			next = []int{i.C}
		case api.OpIf:
			next = append(next, i.C)
		case api.OpReturn:
			next = nil
		}
		for _, n := range next {
			less := known[n] == nil
			if less {
				known[n] = slices.Clone(behind)
			}
			for r := range behind {
				less = less || known[n][r] && !behind[r]
				known[n][r] = known[n][r] && behind[r]
			}
			if less {
				work = append(work, n)
			}
		}
	}
	for at, i := range b.Code {
		reads, _ := lower.Uses(i)
		for _, r := range reads {
			if known[at] != nil && !known[at][r] {
				return at
			}
		}
	}
	return -1
}

// changed returns trees in which a function has changed each node.
func changed(l []api.Node, change func(*api.Node)) []api.Node {
	var all []api.Node
	for _, n := range l {
		n.Kids = changed(n.Kids, change)
		change(&n)
		all = append(all, n)
	}
	return all
}

// renamed returns a program with other names of procedures, and of locals, none of which has the name of a global.
func renamed(p api.Program) api.Program {
	procedure := func(name string) string {
		if name == "main" {
			return name
		}
		return "p_" + name
	}
	local := func(name string) string {
		if slices.ContainsFunc(p.Globals, func(g api.Node) bool { return g.Name == name }) {
			return name
		}
		return "l_" + name
	}
	change := func(n *api.Node) {
		switch n.Op {
		case api.Call:
			n.Name = procedure(n.Name)
		case api.Name, api.Var:
			n.Name = local(n.Name)
		}
	}
	q := api.Program{Globals: changed(p.Globals, change)}
	for _, f := range p.Procs {
		f.Name, f.Body, f.Formals = procedure(f.Name), changed(f.Body, change), slices.Clone(f.Formals)
		for i, a := range f.Formals {
			f.Formals[i].Name = local(a.Name)
		}
		q.Procs = append(q.Procs, f)
	}
	return q
}

// TestUnused asks P17.5: a local that is not used is set, and changes nothing else.
func TestUnused(t *testing.T) {
	r := rand.New(rand.NewSource(19))
	made(t, 20, 150, func(text string, _, p api.Program) {
		q := api.Program{Globals: p.Globals}
		unused := api.Node{Op: api.Var, Name: "unused", Num: api.HasType, Kids: []api.Node{{Op: api.Type, Name: "int"}}}
		for _, f := range p.Procs {
			f.Body = changed([]api.Node{{Op: api.BlockOf, Kids: f.Body}}, func(n *api.Node) {
				if n.Op == api.BlockOf && r.Intn(2) == 0 {
					n.Kids = slices.Insert(n.Kids, r.Intn(len(n.Kids)+1), unused)
				}
			})[0].Kids
			q.Procs = append(q.Procs, f)
		}
		c, e := lower.Program(q)
		if e != api.OK { // too many nodes
			return
		}
		if !same(bare(c), bare(codeOf(t, p))) {
			t.Fatalf("%s: with locals that are not used it has other code", text)
		}
	})
}

// bare returns code without what sets registers that are not read, and with registers numbered by their first use.
func bare(c api.Code) api.Code {
	all := api.Code{Globals: c.Globals}
	for _, b := range c.Bodies {
		all.Bodies = append(all.Bodies, bareBody(b))
	}
	return all
}

func bareBody(b api.Body) api.Body {
	read := map[int]bool{}
	for _, i := range b.Code {
		reads, _ := lower.Uses(i)
		for _, r := range reads {
			read[r] = true
		}
	}
	var code []api.Ins
	ahead := make([]int, len(b.Code)) // how many instructions are left ahead of each one
	for at, i := range b.Code {
		ahead[at] = len(code)
		if i.Op != api.OpSet || read[i.A] {
			code = append(code, i)
		}
	}
	numbers := map[int]int{-1: -1}
	number := func(r *int) {
		if _, ok := numbers[*r]; !ok {
			numbers[*r] = len(numbers)
		}
		*r = numbers[*r]
	}
	for at, i := range code {
		row := rows()[i.Op-1]
		for n, field := range []*int{&i.A, &i.B, &i.C, &i.D} {
			switch row.fields[n] {
			case 'w', 'r', 'W', 'R':
				number(field)
			case 'i':
				*field = ahead[*field]
			}
		}
		i.List = slices.Clone(i.List)
		for n := range i.List {
			number(&i.List[n])
		}
		code[at] = i
	}
	return api.Body{Name: b.Name, Arguments: b.Arguments, Code: code}
}

// TestGiven asks that nothing that was handed in is changed.
func TestGiven(t *testing.T) {
	made(t, 21, 50, func(text string, _, p api.Program) {
		q := renamed(p)
		again := renamed(p)
		lower.Program(q)
		for i, f := range q.Procs {
			if !slices.EqualFunc(f.Body, again.Procs[i].Body, sameNode) {
				t.Fatalf("%s was changed", text)
			}
		}
	})
}

func sameNode(a, b api.Node) bool {
	return a.Op == b.Op && a.Name == b.Name && a.Num == b.Num && slices.EqualFunc(a.Kids, b.Kids, sameNode)
}
