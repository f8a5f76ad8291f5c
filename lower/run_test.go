package lower_test

import (
	"math"
	"math/bits"
	"slices"
	"strconv"
	"strings"

	"raddle/api"
	"raddle/dmap"
	"raddle/domain"
	"raddle/span"
)

// ended is the code with which a run ends early; tired is one for runs that are too long.
type ended api.Errno

const tired = ended(api.ErrFuel)

func must(e api.Errno) {
	if e != api.OK {
		panic(ended(e))
	}
}

// effects returns the output of a run, and how it ended.
func effects(output *[]string, run func()) (all string) {
	defer func() {
		e, early := recover().(ended)
		if early {
			all = strings.Join(append(*output, "end "+strconv.Itoa(int(e))), "\n")
		}
	}()
	run()
	return strings.Join(append(*output, "end 0"), "\n")
}

func truth(b bool) int {
	if b {
		return 1
	}
	return 0
}

// arith is what an operator gives of two numbers.
func arith(operator string, x, y int) int {
	switch operator {
	case "+":
		if s := x + y; (s > x) == (y > 0) {
			return s
		}
	case "-":
		if d := x - y; (d < x) == (y > 0) {
			return d
		}
	case "*":
		high, low := bits.Mul64(absolute(x), absolute(y))
		if p := x * y; high == 0 && (low <= math.MaxInt || low == 1<<63 && p < 0 && (x < 0) != (y < 0)) {
			return p
		}
	case "/":
		if y == 0 {
			must(api.ErrDivide)
		}
		if x != math.MinInt || y != -1 {
			return x / y
		}
	case "%":
		if y == 0 {
			must(api.ErrDivide)
		}
		return x % y
	case "min":
		return min(x, y)
	case "max":
		return max(x, y)
	default:
		return truth(map[string]bool{"==": x == y, "!=": x != y, "<": x < y, "<=": x <= y, ">": x > y, ">=": x >= y, "&&": x != 0 && y != 0, "||": x != 0 || y != 0}[operator])
	}
	panic(ended(api.ErrOverflow))
}

func absolute(x int) uint64 {
	if x < 0 {
		return -uint64(x)
	}
	return uint64(x)
}

// onCell performs an operation of a cell.
func onCell(operation string, full *bool, value *int, given int) int {
	waits := operation == "readFE" || operation == "readFF" || operation == "writeFF"
	if waits && !*full || operation == "writeEF" && *full {
		must(api.ErrStuck)
	}
	was := *value
	switch operation {
	case "readFE":
		*full = false
	case "reset":
		*full, *value, was = false, 0, 0
	case "writeEF", "writeFF", "writeXF":
		*full, *value, was = true, given, 0
	case "isFull":
		was = truth(*full)
	}
	return was
}

// onAtom performs an operation of an atomic variable.
func onAtom(operation string, value *int, l []int) int {
	was := *value
	switch operation {
	case "write":
		*value, was = l[0], 0
	case "add":
		*value, was = arith("+", was, l[0]), 0
	case "fetchAdd":
		*value = arith("+", was, l[0])
	case "exchange":
		*value = l[0]
	case "compareAndSwap":
		if was == l[0] {
			*value = l[1]
		}
		return truth(was == l[0])
	}
	return was
}

// object is one of flow code: a range, a domain, an array of elements, a cell, an atomic variable or a counter.
type object struct {
	kind     string
	span     api.Range
	domain   api.Domain
	of       int
	elements []int
	full     bool
	value    int
}

// machine runs flow code as the first section of the chapter says; each task runs at once, where it begins. Writes has the Ops that write A.
type machine struct {
	code    api.Code
	locales int
	globals []int
	objects []*object
	output  []string
	steps   int
	writes  map[int]bool
}

// thread is a task: its locale, and its scopes.
type thread struct {
	locale int
	scopes []int
}

func runCode(c api.Code, locales int) string {
	m := &machine{code: c, locales: locales, globals: make([]int, c.Globals), writes: map[int]bool{}}
	for _, r := range rows() {
		m.writes[r.op] = strings.ContainsAny(r.fields[:1], "wW")
	}
	return effects(&m.output, func() { m.call(&thread{}, 0, nil) })
}

func (m *machine) new(o object) int {
	m.objects = append(m.objects, &o)
	return len(m.objects)
}

func (m *machine) object(n int, kinds string) *object {
	if n < 1 || n > len(m.objects) || !slices.Contains(strings.Fields(kinds), m.objects[n-1].kind) {
		must(api.ErrType)
	}
	return m.objects[n-1]
}

// domainOf returns the domain of what can be gone through.
func (m *machine) domainOf(t *thread, o *object) api.Domain {
	if o.kind == "range" {
		return domainOver(t.locale, o.span)
	}
	return o.domain
}

func domainOver(home int, l ...api.Range) api.Domain {
	for i, r := range l {
		if r.Stride < 0 {
			l[i].Stride = -r.Stride
		}
	}
	d, e := domain.Of(l)
	must(e)
	d.Map = api.Map{Kind: api.Local, Home: home}
	return d
}

func (m *machine) call(t *thread, body int, list []int) int {
	b := m.code.Bodies[body]
	r := make([]int, b.Registers)
	copy(r, list)
	for next := 0; ; {
		if m.steps++; m.steps > 60000 {
			panic(tired)
		}
		i := b.Code[next]
		next++
		switch i.Op {
		case api.OpJump:
			next = i.C
		case api.OpIf:
			if r[i.A] == 0 {
				next = i.C
			}
		case api.OpReturn:
			if i.A < 0 {
				return 0
			}
			return r[i.A]
		default:
			if v := m.step(t, i, r); m.writes[i.Op] && i.A >= 0 {
				r[i.A] = v
			}
		}
	}
}

func valuesOf(r []int, list []int) []int {
	var l []int
	for _, n := range list {
		l = append(l, r[n])
	}
	return l
}

// step performs an instruction that goes on to the next one, and returns what A becomes, if it is written.
func (m *machine) step(t *thread, i api.Ins, r []int) int {
	list := valuesOf(r, i.List)
	switch i.Op {
	case api.OpSet:
		return i.B
	case api.OpCopy:
		return r[i.B]
	case api.OpUnary:
		if i.Text == "!" {
			return truth(r[i.B] == 0)
		}
		return arith("-", 0, r[i.B])
	case api.OpBinary:
		return arith(i.Text, r[i.B], r[i.C])
	case api.OpGet:
		return m.globals[i.B]
	case api.OpPut:
		m.globals[i.A] = r[i.B]
	case api.OpRange, api.OpBy, api.OpCount, api.OpDomain, api.OpMap, api.OpArray, api.OpCell, api.OpAtomic, api.OpCounter:
		return m.make(t, i, r)
	case api.OpField, api.OpNth, api.OpLoad, api.OpStore, api.OpPieces, api.OpPiece, api.OpInPiece:
		return m.ask(t, i, r)
	case api.OpCall:
		return m.call(t, i.B, list)
	case api.OpHere:
		return t.locale
	case api.OpLocales:
		return m.locales
	case api.OpGo:
		if r[i.A] < 0 || r[i.A] >= m.locales {
			must(api.ErrLocale)
		}
		t.locale = r[i.A]
	case api.OpSpawn:
		m.spawn(t, i, r)
	case api.OpWait:
		if m.object(r[i.A], "counter").value != 0 {
			must(api.ErrStuck)
		}
	case api.OpScope:
		q := m.new(object{kind: "counter"})
		t.scopes = append(t.scopes, q)
		return q
	case api.OpUnscope:
		t.scopes = t.scopes[:max(0, len(t.scopes)-1)]
	case api.OpOnCell:
		given := 0
		if i.C >= 0 {
			given = r[i.C]
		}
		c := m.object(r[i.B], "cell")
		return onCell(i.Text, &c.full, &c.value, given)
	case api.OpOnAtom:
		return onAtom(i.Text, &m.object(r[i.B], "atomic").value, list)
	case api.OpWrite:
		line := i.Text
		for _, v := range list {
			line = strings.Replace(line, "\x00", strconv.Itoa(v), 1)
		}
		m.output = append(m.output, line)
	case api.OpAssert:
		if r[i.A] == 0 {
			must(api.ErrAssert)
		}
	}
	return 0
}

func (m *machine) make(t *thread, i api.Ins, r []int) int {
	switch i.Op {
	case api.OpRange:
		s, e := span.Of(r[i.B], r[i.C], 1)
		must(e)
		return m.new(object{kind: "range", span: s})
	case api.OpBy:
		s, e := span.By(m.object(r[i.B], "range").span, r[i.C])
		must(e)
		return m.new(object{kind: "range", span: s})
	case api.OpCount:
		s, e := span.Count(m.object(r[i.B], "range").span, r[i.C])
		must(e)
		return m.new(object{kind: "range", span: s})
	case api.OpDomain:
		var l []api.Range
		for _, n := range i.List {
			l = append(l, m.object(r[n], "range").span)
		}
		return m.new(object{kind: "domain", domain: domainOver(t.locale, l...)})
	case api.OpMap:
		d := m.object(r[i.B], "domain").domain
		d.Map = api.Map{Kind: i.C}
		if i.C == api.BlockCyclic {
			d.Map.Size = r[i.D]
		}
		must(dmap.Check(d, m.locales))
		return m.new(object{kind: "domain", domain: d})
	case api.OpArray:
		d := m.object(r[i.B], "domain").domain
		return m.new(object{kind: "array", domain: d, of: r[i.B], elements: make([]int, domain.Size(d))})
	case api.OpCell:
		return m.new(object{kind: "cell"})
	case api.OpAtomic:
		return m.new(object{kind: "atomic"})
	}
	return m.new(object{kind: "counter"})
}

func (m *machine) ask(t *thread, i api.Ins, r []int) int {
	if i.Op == api.OpStore {
		*m.element(r[i.A], valuesOf(r, i.List)) = r[i.B]
		return 0
	}
	o := m.object(r[i.B], "range domain array")
	switch i.Op {
	case api.OpField:
		return m.field(o, i.Text)
	case api.OpNth:
		if o.kind == "range" {
			n, e := span.Nth(o.span, r[i.D])
			must(e)
			return n
		}
		index, e := domain.Nth(o.domain, r[i.D])
		must(e)
		return index[i.C]
	case api.OpLoad:
		return *m.element(r[i.B], valuesOf(r, i.List))
	}
	d := m.domainOf(t, o)
	pieces, e := dmap.Pieces(d, m.locales, api.Cores)
	must(e)
	switch {
	case i.Op == api.OpPieces:
		return len(pieces)
	case i.Op == api.OpInPiece:
		index, e := domain.Nth(d, pieces[r[i.D]].At[r[i.List[0]]])
		must(e)
		return index[i.C]
	case i.C == 0:
		return pieces[r[i.D]].Locale
	}
	return len(pieces[r[i.D]].At)
}

func (m *machine) field(o *object, name string) int {
	switch {
	case name == "size" && o.kind == "range":
		return span.Size(o.span)
	case name == "size":
		return domain.Size(o.domain)
	case name == "domain" && o.kind == "array":
		return o.of
	case o.kind != "range":
		must(api.ErrType)
	}
	return map[string]int{"low": o.span.Low, "high": o.span.High, "stride": o.span.Stride}[name]
}

func (m *machine) element(array int, index []int) *int {
	a := m.object(array, "array")
	at, ok := domain.Position(a.domain, index)
	if !ok {
		must(api.ErrBounds)
	}
	return &a.elements[at]
}

func (m *machine) spawn(t *thread, i api.Ins, r []int) {
	inner := &thread{locale: t.locale}
	if len(t.scopes) > 0 {
		inner.scopes = t.scopes[len(t.scopes)-1:]
	}
	q := 0
	switch {
	case i.A >= 0:
		q = r[i.A]
	case len(inner.scopes) > 0:
		q = inner.scopes[0]
	}
	if q > 0 {
		m.object(q, "counter").value++
	}
	m.call(inner, i.B, valuesOf(r, i.List))
	if q > 0 {
		m.object(q, "counter").value--
	}
}
