package lower_test

import (
	"slices"
	"strconv"
	"strings"

	"raddle/api"
	"raddle/check"
	"raddle/dmap"
	"raddle/domain"
	"raddle/span"
)

// env is a list of scopes, in which names have values: a number (also of a bool), a range, a domain, or a pointer to an array, a cell or a number.
type env struct {
	names map[string]*any
	outer *env
}

func (v *env) inside() *env { return &env{map[string]*any{}, v} }

func (v *env) add(name string, x any) { v.names[name] = &x }

func (v *env) find(name string) *any {
	for ; v != nil; v = v.outer {
		if x := v.names[name]; x != nil {
			return x
		}
	}
	return nil
}

// array has the elements over a domain.
type array struct {
	domain   api.Domain
	elements []int
}

// cell is a full and empty cell.
type cell struct {
	full  bool
	value int
}

// atom is an atomic variable.
type atom struct{ value int }

// frame is a call of a procedure, or of an iterator, whose values go to a loop.
type frame struct {
	result any
	yield  func(any) bool
}

// walker runs the trees of programs, with iterators as they stand; each task runs at once, where it begins.
type walker struct {
	p       api.Program
	locales int
	globals *env
	output  []string
	steps   int
}

// place is where statements run: their locals, their call, and the locale of their task.
type place struct {
	v      *env
	f      *frame
	locale *int
}

func (c place) inside() place { return place{c.v.inside(), c.f, c.locale} }

func runTree(p api.Program, locales int) string {
	w := &walker{p: p, locales: locales, globals: (*env)(nil).inside()}
	return effects(&w.output, func() {
		c := place{w.globals, nil, new(int)}
		for _, g := range p.Globals {
			w.statement(g, c)
		}
		w.call("main", nil, c, nil)
	})
}

func (w *walker) call(name string, l []any, c place, yield func(any) bool) any {
	w.tire()
	f := w.p.Procs[check.Find(w.p, name)]
	inner := place{w.globals.inside(), &frame{result: 0, yield: yield}, c.locale}
	for i, a := range f.Formals {
		inner.v.add(a.Name, l[i])
	}
	w.block(f.Body, inner)
	return inner.f.result
}

func (w *walker) tire() {
	if w.steps++; w.steps > 4000 {
		panic(tired)
	}
}

// block runs statements in a scope of their own, and reports whether their procedure is left.
func (w *walker) block(l []api.Node, c place) bool {
	c = c.inside()
	for _, n := range l {
		if w.statement(n, c) {
			return true
		}
	}
	return false
}

// task runs a block as a task, on a locale.
func (w *walker) task(locale int, b api.Node, c place) {
	c.locale = &locale
	w.block(b.Kids, c)
}

func (w *walker) statement(n api.Node, c place) bool {
	w.tire()
	switch n.Op {
	case api.Var:
		c.v.add(n.Name, w.initial(n, c))
	case api.Assign:
		w.assign(n, c)
	case api.If:
		if w.number(n.Kids[0], c) != 0 {
			return w.block(n.Kids[1].Kids, c)
		}
		return len(n.Kids) == 3 && w.block(n.Kids[2].Kids, c)
	case api.While:
		for w.number(n.Kids[0], c) != 0 {
			if w.tire(); w.block(n.Kids[1].Kids, c) {
				return true
			}
		}
	case api.For:
		return w.loop(n, c)
	case api.Coforall:
		w.each(n, w.expr(n.Kids[n.Num], c), c, func(inner place) bool {
			w.task(*c.locale, n.Kids[n.Num+1], inner)
			return false
		})
	case api.Forall:
		w.forall(n, c)
	case api.Begin, api.Cobegin:
		for _, b := range n.Kids {
			w.task(*c.locale, b, c)
		}
	case api.Sync, api.BlockOf:
		if n.Op == api.Sync {
			n = n.Kids[0]
		}
		return w.block(n.Kids, c)
	case api.On:
		home := *c.locale
		w.on(w.number(n.Kids[0], c), c)
		w.block(n.Kids[1].Kids, c)
		*c.locale = home
	case api.Return:
		if len(n.Kids) > 0 {
			c.f.result = w.expr(n.Kids[0], c)
		}
		return true
	case api.Yield:
		return c.f.yield(w.expr(n.Kids[0], c))
	case api.Do:
		w.expr(n.Kids[0], c)
	case api.Write:
		w.write(n, c)
	case api.Assert:
		if w.number(n.Kids[0], c) == 0 {
			must(api.ErrAssert)
		}
	}
	return false
}

func (w *walker) on(locale int, c place) {
	if locale < 0 || locale >= w.locales {
		must(api.ErrLocale)
	}
	*c.locale = locale
}

func (w *walker) write(n api.Node, c place) {
	line := ""
	for _, k := range n.Kids {
		if k.Op == api.Str {
			line += k.Name
			continue
		}
		line += strconv.Itoa(w.number(k, c))
	}
	w.output = append(w.output, line)
}

func (w *walker) initial(n api.Node, c place) any {
	last := n.Kids[len(n.Kids)-1]
	switch {
	case n.Num&api.HasInit != 0:
		return w.expr(last, c)
	case last.Op == api.Array:
		d := w.expr(last.Kids[0], c).(api.Domain)
		return &array{d, make([]int, domain.Size(d))}
	case last.Name == "sync":
		return &cell{}
	case last.Name == "atomic":
		return &atom{}
	}
	return 0
}

func (w *walker) assign(n api.Node, c place) {
	target := n.Kids[0]
	operator := strings.TrimSuffix(n.Name, "=")
	if target.Op == api.Index {
		a := w.expr(target.Kids[0], c).(*array)
		index := w.numbers(target.Kids[1:], c)
		x := w.number(n.Kids[1], c)
		at, ok := domain.Position(a.domain, index)
		if !ok {
			must(api.ErrBounds)
		}
		if operator != "" {
			x = arith(operator, a.elements[at], x)
		}
		a.elements[at] = x
		return
	}
	x := w.expr(n.Kids[1], c)
	to := c.v.find(target.Name)
	if operator != "" {
		x = arith(operator, (*to).(int), x.(int))
	}
	*to = x
}

// loop runs a For.
func (w *walker) loop(n api.Node, c place) bool {
	through, block := n.Kids[n.Num], n.Kids[n.Num+1].Kids
	if through.Op != api.Call || !w.p.Procs[check.Find(w.p, through.Name)].Iter {
		return w.each(n, w.expr(through, c), c, func(inner place) bool { return w.block(block, inner) })
	}
	var l []any
	for _, k := range through.Kids {
		l = append(l, w.expr(k, c))
	}
	left := false
	w.call(through.Name, l, c, func(x any) bool {
		inner := c.inside()
		inner.v.add(n.Kids[0].Name, x)
		left = w.block(block, inner)
		return left
	})
	return left
}

// each runs something for each element of an object, with the names of a loop.
func (w *walker) each(n api.Node, o any, c place, run func(place) bool) bool {
	size := w.size(o)
	for k := range size {
		w.tire()
		inner := c.inside()
		index := nth(o, k)
		switch a, isArray := o.(*array); {
		case isArray:
			inner.v.add(n.Kids[0].Name, a.elements[k])
		default:
			for i, x := range index {
				inner.v.add(n.Kids[i].Name, x)
			}
		}
		if run(inner) {
			return true
		}
	}
	return false
}

func (w *walker) size(o any) int {
	switch o := o.(type) {
	case api.Range:
		return span.Size(o)
	case api.Domain:
		return domain.Size(o)
	case *array:
		return domain.Size(o.domain)
	}
	panic(ended(api.ErrType))
}

func nth(o any, k int) []int {
	switch o := o.(type) {
	case api.Range:
		n, e := span.Nth(o, k)
		must(e)
		return []int{n}
	case api.Domain:
		index, e := domain.Nth(o, k)
		must(e)
		return index
	}
	return nil
}

func (w *walker) forall(n api.Node, c place) {
	o := w.expr(n.Kids[n.Num], c)
	d, ok := o.(api.Domain)
	if r, isRange := o.(api.Range); isRange {
		d, ok = domainOver(*c.locale, r), true
	}
	if !ok {
		must(api.ErrType)
	}
	pieces, e := dmap.Pieces(d, w.locales, api.Cores)
	must(e)
	intents := n.Kids[n.Num+2:]
	values := make([][]int, len(intents))
	for _, piece := range pieces {
		inner := c.inside()
		locale := piece.Locale
		inner.locale = &locale
		for _, k := range intents {
			inner.v.add(k.Kids[0].Name, map[string]int{"+": 0, "*": 1, "min": 1<<63 - 1, "max": -1 << 63, "&&": 1, "||": 0}[k.Name])
		}
		for _, at := range piece.At {
			w.tire()
			element := inner.inside()
			for i, x := range nth(d, at) {
				element.v.add(n.Kids[i].Name, x)
			}
			w.block(n.Kids[n.Num+1].Kids, element)
		}
		for i, k := range intents {
			values[i] = append(values[i], (*inner.v.find(k.Kids[0].Name)).(int))
		}
	}
	for i, k := range intents {
		s := c.v.find(k.Kids[0].Name)
		for _, x := range values[i] {
			*s = arith(k.Name, (*s).(int), x)
		}
	}
}

func (w *walker) number(n api.Node, c place) int {
	x, ok := w.expr(n, c).(int)
	if !ok {
		must(api.ErrType)
	}
	return x
}

func (w *walker) numbers(l []api.Node, c place) []int {
	var all []int
	for _, n := range l {
		all = append(all, w.number(n, c))
	}
	return all
}

func (w *walker) expr(n api.Node, c place) any {
	switch n.Op {
	case api.Int, api.Bool:
		return n.Num
	case api.Name:
		return *c.v.find(n.Name)
	case api.Here:
		return *c.locale
	case api.NumLocales:
		return w.locales
	case api.Unary:
		if x := w.number(n.Kids[0], c); n.Name == "-" {
			return arith("-", 0, x)
		} else {
			return 1 - x
		}
	case api.Binary:
		x := w.number(n.Kids[0], c)
		if n.Name == "&&" && x == 0 || n.Name == "||" && x == 1 {
			return x
		}
		y := w.number(n.Kids[1], c)
		return arith(n.Name, x, y)
	case api.Cond:
		if w.number(n.Kids[0], c) != 0 {
			return w.expr(n.Kids[1], c)
		}
		return w.expr(n.Kids[2], c)
	case api.Call:
		var l []any
		for _, k := range n.Kids {
			l = append(l, w.expr(k, c))
		}
		return w.call(n.Name, l, c, nil)
	case api.RangeOf, api.By, api.Count, api.DomainOf, api.Mapped:
		return w.set(n, c)
	}
	return w.ask(n, c)
}

// set returns a range or a domain.
func (w *walker) set(n api.Node, c place) any {
	if n.Op == api.RangeOf {
		l := w.numbers(n.Kids, c)
		r, e := span.Of(l[0], l[1], 1)
		must(e)
		return r
	}
	first := w.expr(n.Kids[0], c)
	switch n.Op {
	case api.By, api.Count:
		do := map[int]func(api.Range, int) (api.Range, api.Errno){api.By: span.By, api.Count: span.Count}[n.Op]
		r, e := do(first.(api.Range), w.number(n.Kids[1], c))
		must(e)
		return r
	case api.DomainOf:
		l := []api.Range{first.(api.Range)}
		if len(n.Kids) > 1 {
			l = append(l, w.expr(n.Kids[1], c).(api.Range))
		}
		return domainOver(*c.locale, l...)
	}
	d := first.(api.Domain)
	d.Map = api.Map{Kind: 1 + slices.Index([]string{"block", "cyclic", "blockcyclic", "hashed"}, n.Name)}
	if n.Name == "blockcyclic" {
		d.Map.Size = w.number(n.Kids[1], c)
	}
	must(dmap.Check(d, w.locales))
	return d
}

// ask returns what an object gives.
func (w *walker) ask(n api.Node, c place) any {
	o := w.expr(n.Kids[0], c)
	switch n.Op {
	case api.Index:
		a := o.(*array)
		at, ok := domain.Position(a.domain, w.numbers(n.Kids[1:], c))
		if !ok {
			must(api.ErrBounds)
		}
		return a.elements[at]
	case api.Field:
		switch n.Name {
		case "size":
			return w.size(o)
		case "domain":
			return o.(*array).domain
		}
		r := o.(api.Range)
		return map[string]int{"low": r.Low, "high": r.High, "stride": r.Stride}[n.Name]
	case api.Method:
		l := w.numbers(n.Kids[1:], c)
		if x, isCell := o.(*cell); isCell {
			return onCell(n.Name, &x.full, &x.value, append(l, 0)[0])
		}
		return onAtom(n.Name, &o.(*atom).value, l)
	}
	s := map[string]int{"+": 0, "*": 1, "min": 1<<63 - 1, "max": -1 << 63}[n.Name]
	for k := range w.size(o) {
		x := 0
		if a, isArray := o.(*array); isArray {
			x = a.elements[k]
		} else {
			x = nth(o, k)[0]
		}
		s = arith(n.Name, s, x)
	}
	return s
}
