package module_test

import (
	"math/rand"
	"slices"
	"strconv"
	"strings"

	"raddle/api"
	"raddle/module"
	"raddle/syntax"
)

// thing is a global or a procedure of a module.
type thing struct {
	name                  string
	private, global, iter bool
}

// fault is an error at a module.
type fault struct {
	module int
	code   api.Errno
}

// world makes random modules together with what they are linked to: what each name means is decided when it is written.
type world struct {
	*rand.Rand
	modules []syntax.Module
	things  [][]thing
	globals [][]api.Node // what those of each module are linked to
	procs   [][]api.Proc
	faults  []fault // in the order in which they are looked for
	careful bool    // only right names are written
}

func newWorld(r *rand.Rand, careful bool) *world {
	w := &world{Rand: r, careful: careful}
	count := 1 + r.Intn(4)
	main := r.Intn(count)
	for i := range count {
		w.modules = append(w.modules, syntax.Module{Name: "M" + strconv.Itoa(i)})
		w.things = append(w.things, w.someThings(i == main))
	}
	for i := range w.modules {
		w.addUses(i)
	}
	for i := range w.modules {
		w.fill(i)
	}
	return w
}

func (w *world) someThings(main bool) []thing {
	var l []thing
	for _, n := range []string{"x", "y", "v", "main"} {
		if w.Intn(2) == 0 && (n != "main" || !main) {
			l = append(l, thing{name: n, private: w.Intn(4) == 0, global: true})
		}
	}
	globals := len(l)
	for range w.Intn(5) {
		n := thing{name: []string{"f", "g", "x", "main"}[w.Intn(4)], private: w.Intn(4) == 0, iter: w.Intn(3) == 0}
		if n.name == "main" {
			n.iter = true
		}
		if !slices.ContainsFunc(l[:globals], func(t thing) bool { return t.name == n.name }) {
			l = append(l, n)
		}
	}
	if main {
		l = append(l, thing{name: "main"})
	}
	return l
}

// state says of a name whether a module has it, and whether it is private.
func (w *world) state(i int, name string) (has, private bool) {
	for _, t := range w.things[i] {
		if t.name == name {
			return true, t.private
		}
	}
	return false, false
}

func (w *world) public(i int) []string {
	var l []string
	for _, t := range w.things[i] {
		if _, private := w.state(i, t.name); !private && !slices.Contains(l, t.name) {
			l = append(l, t.name)
		}
	}
	return l
}

func (w *world) addUses(i int) {
	for range w.Intn(5) {
		j := w.Intn(len(w.modules))
		public := w.public(j)
		w.Shuffle(len(public), func(a, b int) { public[a], public[b] = public[b], public[a] })
		u := syntax.Use{Kind: w.Intn(4), Module: w.modules[j].Name}
		switch {
		case j == i:
			continue
		case u.Kind == syntax.Import:
			u.As = []string{"P", "Q", "x", "R"}[len(w.modules[i].Uses)%4]
		case u.Kind != syntax.All && len(public) == 0:
			continue
		case u.Kind != syntax.All:
			u.Names = public[:1+w.Intn(len(public))]
		}
		before := w.modules[i].Uses
		w.modules[i].Uses = append(slices.Clone(before), u)
		if w.clash(i) {
			w.modules[i].Uses = before
		}
	}
}

// from returns the modules through whose uses a name is visible.
func (w *world) from(i int, name string) []int {
	var l []int
	for _, u := range w.modules[i].Uses {
		j := slices.IndexFunc(w.modules, func(m syntax.Module) bool { return m.Name == u.Module })
		listed := slices.Contains(u.Names, name)
		if has, private := w.state(j, name); has && !private && !slices.Contains(l, j) && (u.Kind == syntax.All || u.Kind == syntax.Only && listed || u.Kind == syntax.Except && !listed) {
			l = append(l, j)
		}
	}
	return l
}

var pool = []string{"x", "y", "v", "f", "g", "main", "w", "t", "x_0", "f_1", "y_2", "main_1", "P.x", "P.f", "Q.f", "Q.main", "x.y", "R.g", "Z.x", "P.zz"}

func (w *world) clash(i int) bool {
	for _, n := range pool {
		if has, _ := w.state(i, n); !has && len(w.from(i, n)) > 1 {
			return true
		}
	}
	return false
}

func (w *world) linked(i int, name string) string {
	if name == "main" && slices.ContainsFunc(w.things[i], func(t thing) bool { return t.name == "main" && !t.global && !t.iter }) {
		return "main"
	}
	return name + "_" + strconv.Itoa(i)
}

// meaning returns the linked name of what a name means in a module that is not local.
func (w *world) meaning(i int, name string) (string, api.Errno) {
	before, after, dotted := strings.Cut(name, ".")
	if !dotted {
		if has, _ := w.state(i, name); has {
			return w.linked(i, name), api.OK
		}
		if l := w.from(i, name); len(l) == 1 {
			return w.linked(l[0], name), api.OK
		}
		return "", module.ErrUnknown
	}
	for _, u := range w.modules[i].Uses {
		if u.Kind == syntax.Import && u.As == before {
			j := slices.IndexFunc(w.modules, func(m syntax.Module) bool { return m.Name == u.Module })
			has, private := w.state(j, after)
			switch {
			case !has:
				return "", module.ErrUnknown
			case private:
				return "", module.ErrPrivate
			}
			return w.linked(j, after), api.OK
		}
	}
	return "", module.ErrUnknown
}

func (w *world) taken(name string) bool {
	for i := range w.things {
		for _, t := range w.things[i] {
			if w.linked(i, t.name) == name {
				return true
			}
		}
	}
	return false
}

// fail notes an error; what is wrong stays as it is.
func (w *world) fail(i int, e api.Errno) {
	if e != api.OK {
		w.faults = append(w.faults, fault{i, e})
	}
}

// local returns a new local name, which only who is not careful takes from the linked ones.
func (w *world) local(i int) string {
	for {
		n := pool[w.Intn(plainNames)]
		if w.taken(n) && (w.careful || w.Intn(30) > 0) {
			continue
		}
		if w.taken(n) {
			w.fail(i, module.ErrClash)
		}
		return n
	}
}

// both is a tree and what it is linked to.
type both struct{ src, want api.Node }

// plainNames says how many names of the pool have no point.
const plainNames = 12

// named makes a Name or a Call of one of the first names of the pool that means something, or an expression without a name.
func (w *world) named(i, op, first int, locals []string) both {
	for range 50 {
		n := pool[w.Intn(first)]
		if op == api.Name && slices.Contains(locals, n) {
			return both{api.Node{Op: op, Name: n}, api.Node{Op: op, Name: n}}
		}
		linked, e := w.meaning(i, n)
		if e == module.ErrUnknown && (w.careful || w.Intn(400) > 0) || e == module.ErrPrivate && (w.careful || w.Intn(3) > 0) {
			continue
		}
		w.fail(i, e)
		return both{api.Node{Op: op, Name: n}, api.Node{Op: op, Name: linked}}
	}
	return both{api.Node{Op: api.Here}, api.Node{Op: api.Here}}
}

func (b *both) add(k both) {
	b.src.Kids = append(b.src.Kids, k.src)
	b.want.Kids = append(b.want.Kids, k.want)
}

func leaf(n api.Node) both { return both{n, n} }

func (w *world) expr(i, depth int, locals []string) both {
	switch k := w.Intn(6); {
	case k == 0:
		return leaf(api.Node{Op: api.Int, Num: w.Intn(9)})
	case depth == 0 || k == 1:
		return w.named(i, api.Name, len(pool), locals)
	case k == 2:
		b := w.named(i, api.Call, len(pool), locals)
		for range w.Intn(3) {
			if b.src.Op == api.Call && w.Intn(3) == 0 {
				b.add(leaf(api.Node{Op: api.Type, Name: "int"}))
			} else if b.src.Op == api.Call {
				b.add(w.expr(i, depth-1, locals))
			}
		}
		return b
	case k == 3:
		b := leaf(api.Node{Op: api.Field, Name: "size"})
		b.add(w.expr(i, depth-1, locals))
		return b
	case k == 4:
		b := leaf(api.Node{Op: api.Index})
		b.add(w.expr(i, depth-1, locals))
		b.add(w.expr(i, depth-1, locals))
		return b
	}
	b := leaf(api.Node{Op: api.Cond})
	for range 3 {
		b.add(w.expr(i, depth-1, locals))
	}
	return b
}

func (w *world) typeOf(i int, locals []string) both {
	if w.Intn(2) == 0 {
		return leaf(api.Node{Op: api.Type, Name: []string{"int", "x", "?t", "f"}[w.Intn(4)]})
	}
	b := leaf(api.Node{Op: api.Array})
	b.add(w.expr(i, 1, locals))
	return b
}

func (w *world) block(i, depth int, locals []string) both {
	b := leaf(api.Node{Op: api.BlockOf})
	locals = slices.Clone(locals)
	for range w.Intn(4) {
		b.add(w.statement(i, depth, &locals))
	}
	return b
}

func (w *world) variable(i int, locals *[]string) both {
	b := leaf(api.Node{Op: api.Var, Name: w.local(i), Num: 1 + w.Intn(3)})
	if b.src.Num&1 != 0 {
		b.add(w.typeOf(i, *locals))
	}
	if b.src.Num&2 != 0 {
		b.add(w.expr(i, 2, *locals))
	}
	*locals = append(*locals, b.src.Name)
	return b
}

func (w *world) statement(i, depth int, locals *[]string) both {
	ops := []int{api.Var, api.Var, api.Assign, api.Write}
	if depth > 0 {
		ops = append(ops, api.If, api.On, api.For, api.Forall, api.Coforall, api.BlockOf, api.Cobegin)
	}
	b := leaf(api.Node{Op: ops[w.Intn(len(ops))]})
	switch b.src.Op {
	case api.Var:
		return w.variable(i, locals)
	case api.BlockOf:
		return w.block(i, depth-1, *locals)
	case api.Assign:
		b = leaf(api.Node{Op: api.Assign, Name: "="})
		target := w.named(i, api.Name, plainNames, *locals)
		if target.src.Op != api.Name {
			index := leaf(api.Node{Op: api.Index})
			index.add(target)
			index.add(leaf(api.Node{Op: api.Int}))
			target = index
		}
		b.add(target)
		b.add(w.expr(i, 2, *locals))
	case api.Write:
		b.add(leaf(api.Node{Op: api.Str, Name: "x"}))
		b.add(w.expr(i, 2, *locals))
	case api.If, api.On:
		b.add(w.expr(i, 1, *locals))
		b.add(w.block(i, depth-1, *locals))
	case api.Cobegin:
		b.add(w.block(i, depth-1, *locals))
		b.add(w.block(i, depth-1, *locals))
	default:
		return w.loop(i, depth, b.src.Op, *locals)
	}
	return b
}

func (w *world) loop(i, depth, op int, locals []string) both {
	b := leaf(api.Node{Op: op, Num: 1 + w.Intn(2)})
	inside := slices.Clone(locals)
	for range b.src.Num {
		n := w.local(i)
		inside = append(inside, n)
		b.add(leaf(api.Node{Op: api.Name, Name: n}))
	}
	b.add(w.expr(i, 1, locals))
	b.add(w.block(i, depth-1, inside))
	if op == api.Forall && w.Intn(2) == 0 {
		if n := w.named(i, api.Name, plainNames, locals); n.src.Op == api.Name {
			intent := leaf(api.Node{Op: api.Intent, Name: "+"})
			intent.add(n)
			b.add(intent)
		}
	}
	return b
}

// fill writes the globals and the procedures of a module.
func (w *world) fill(i int) {
	var globals []api.Node
	var procs []api.Proc
	m := &w.modules[i]
	for _, t := range w.things[i] {
		if t.global {
			b := leaf(api.Node{Op: api.Var, Name: t.name, Num: 3})
			b.add(w.typeOf(i, nil))
			b.add(w.expr(i, 2, nil))
			m.Globals = append(m.Globals, syntax.Global{Private: t.private, Var: b.src})
			b.want.Name = w.linked(i, t.name)
			globals = append(globals, b.want)
		}
	}
	for _, t := range w.things[i] {
		if !t.global {
			src, want := w.proc(i, t)
			m.Procs = append(m.Procs, src)
			procs = append(procs, want)
		}
	}
	w.globals = append(w.globals, globals)
	w.procs = append(w.procs, procs)
}

func (w *world) proc(i int, t thing) (src, want api.Proc) {
	src = api.Proc{Name: t.name, Iter: t.iter, Private: t.private}
	want = api.Proc{Name: w.linked(i, t.name), Iter: t.iter}
	var locals []string
	for range w.Intn(3) {
		f := api.Formal{Intent: []string{"", "in", "type"}[w.Intn(3)], Name: w.local(i)}
		g, made := f, ""
		if f.Intent != "type" && w.Intn(2) == 0 {
			made = w.local(i)
			f.Type = api.Node{Op: api.Type, Name: "?" + made}
			g.Type = f.Type
		} else if f.Intent != "type" {
			b := w.typeOf(i, locals)
			f.Type, g.Type = b.src, b.want
			if made, _ = strings.CutPrefix(f.Type.Name, "?"); made == f.Type.Name {
				made = ""
			}
		}
		locals = append(locals, f.Name)
		if made != "" {
			locals = append(locals, made)
		}
		src.Formals, want.Formals = append(src.Formals, f), append(want.Formals, g)
	}
	result := w.typeOf(i, locals)
	src.Result, want.Result = result.src, result.want
	if w.Intn(2) == 0 {
		b := w.expr(i, 1, locals)
		src.Where, want.Where = []api.Node{b.src}, []api.Node{b.want}
	}
	body := w.block(i, 3, locals)
	src.Body, want.Body = body.src.Kids, body.want.Kids
	return src, want
}
