package check_test

import (
	"math"
	"math/rand"
	"regexp"
	"slices"
	"strings"
	"testing"

	"raddle/api"
	"raddle/check"
)

// row is a row of the chapter's table: expressions for the Name, the Num (a letter each: z for 0, b for 1, t for 2, o for others) and the Kids (a letter each, see letterOf).
type row struct{ name, num, kids string }

const (
	anyExpr  = "[enxcm]"
	typeName = `int|bool|range|domain1|domain2|array1|array2|sync|atomic|void`
	nameForm = `[a-zA-Z_][a-zA-Z0-9_]{0,39}`
)

// table returns the rows by their Ops; in the Kids E stands for any expression, B for b.
func table() map[int][]row {
	l := map[int][]row{
		api.Int:        {{``, `.`, ``}},
		api.Bool:       {{``, `[zb]`, ``}},
		api.Str:        {{`[ -~]{0,200}`, `z`, ``}},
		api.Name:       {{nameForm, `z`, ``}},
		api.Unary:      {{`-|!`, `z`, `E`}},
		api.Binary:     {{`\+|-|\*|/|%|==|!=|<|<=|>|>=|&&|\|\|`, `z`, `EE`}},
		api.RangeOf:    {{``, `z`, `EE`}},
		api.By:         {{``, `z`, `EE`}},
		api.Count:      {{``, `z`, `EE`}},
		api.DomainOf:   {{``, `z`, `E|EE`}},
		api.Mapped:     {{`block|cyclic|hashed`, `z`, `E`}, {`blockcyclic`, `z`, `EE`}},
		api.Index:      {{``, `z`, `EE|EEE`}},
		api.Call:       {{nameForm, `z`, `(E|t|v)*`}},
		api.Field:      {{`size|low|high|stride|domain`, `z`, `E`}},
		api.Method:     {{`readFE|readFF|readXX|isFull|reset|read`, `z`, `E`}, {`writeEF|writeFF|writeXF|write|add|fetchAdd|exchange`, `z`, `EE`}, {`compareAndSwap`, `z`, `EEE`}},
		api.Here:       {{``, `z`, ``}},
		api.NumLocales: {{``, `z`, ``}},
		api.Reduce:     {{`\+|\*|min|max`, `z`, `E`}},
		api.Cond:       {{``, `z`, `EEE`}},
		api.Array:      {{``, `z`, `E`}},
		api.Assign:     {{`=|\+=|-=|\*=`, `z`, `(n|x)E`}},
		api.If:         {{``, `z`, `Eb|Ebb`}},
		api.While:      {{``, `z`, `Eb`}},
		api.For:        {{``, `b`, `nEb`}, {``, `t`, `nnEb`}},
		api.Coforall:   {{``, `b`, `nEb`}, {``, `t`, `nnEb`}},
		api.Forall:     {{``, `b`, `nEbi*`}, {``, `t`, `nnEbi*`}},
		api.Begin:      {{``, `z`, `b`}},
		api.Cobegin:    {{``, `z`, `b+`}},
		api.Sync:       {{``, `z`, `b`}},
		api.On:         {{``, `z`, `Eb`}},
		api.Return:     {{``, `z`, `E?`}},
		api.Yield:      {{``, `z`, `E`}},
		api.Do:         {{``, `z`, `[cm]`}},
		api.Write:      {{``, `z`, `(E|S)*`}},
		api.Assert:     {{``, `z`, `E`}},
		api.BlockOf:    {{``, `z`, `[sb]*`}},
		api.Intent:     {{`\+|\*|min|max|&&|\|\|`, `z`, `n`}},
	}
	return l
}

// letterOf returns what stands for a Kid in the table.
func letterOf(n api.Node) string {
	switch {
	case n.Op == api.Name:
		return "n"
	case n.Op == api.Index:
		return "x"
	case n.Op == api.Call:
		return "c"
	case n.Op == api.Method:
		return "m"
	case n.Op == api.Str:
		return "S"
	case n.Op >= api.Int && n.Op <= api.Cond:
		return "e"
	case n.Op == api.Type && n.Name == "void":
		return "v"
	case n.Op == api.Type:
		return "t"
	case n.Op == api.Array:
		return "a"
	case n.Op == api.BlockOf:
		return "b"
	case n.Op == api.Intent:
		return "i"
	case n.Op >= api.Var && n.Op < api.BlockOf:
		return "s"
	}
	return "?"
}

// oracle knows expressions that were compiled.
type oracle struct {
	rows  map[int][]row
	known map[string]*regexp.Regexp
}

func newOracle() *oracle { return &oracle{table(), map[string]*regexp.Regexp{}} }

func (o *oracle) matches(form, s string) bool {
	r := o.known[form]
	if r == nil {
		r = regexp.MustCompile(`(?s)\A(?:` + form + `)\z`)
		o.known[form] = r
	}
	return r.MatchString(s)
}

// node says whether a single node is as the table says, but for what stands in its Kids.
func (o *oracle) node(n api.Node) bool {
	kids := ""
	for _, k := range n.Kids {
		kids += letterOf(k)
	}
	switch n.Op {
	case api.Type:
		variable := strings.TrimPrefix(n.Name, "?")
		return n.Num == 0 && kids == "" && (o.matches(typeName, n.Name) || o.matches(nameForm, variable) && !o.matches(typeName, variable))
	case api.Var:
		want := map[int]string{1: "[ta]", 2: "E", 3: "[ta]E"}[n.Num&3]
		return o.matches(nameForm, n.Name) && n.Num > 0 && n.Num < 16 && want != "" && o.matches(strings.ReplaceAll(want, "E", anyExpr), kids)
	}
	num := "o"
	if n.Num >= 0 && n.Num <= 2 {
		num = "zbt"[n.Num : n.Num+1]
	}
	return slices.ContainsFunc(o.rows[n.Op], func(r row) bool {
		return o.matches(r.name, n.Name) && o.matches(r.num, num) && o.matches(strings.ReplaceAll(r.kids, "E", anyExpr), kids)
	})
}

func (o *oracle) tree(n api.Node) bool {
	return o.node(n) && !slices.ContainsFunc(n.Kids, func(k api.Node) bool { return !o.tree(k) })
}

func (o *oracle) root(n api.Node) bool {
	return o.tree(n) && strings.Contains("nxcmetvasb", letterOf(n))
}

// sample makes nodes of all Ops, most of which are right.
type sample struct{ *rand.Rand }

func (r sample) pick(l ...string) string { return l[r.Intn(len(l))] }

func (r sample) name() string {
	return r.pick("", "a", "x1", "z0", "A9", "Zz", "a/", "a:", "@a", "a[", "a`", "a{", "_y", "a__b", "for", "size", "int", "void", "?t", "t", "?int", "??t", "a b", "1a", "é", "-", "!", "+", "%", "==", "<=", "&&", "||", "min", "max", "=", "+=", "/=", "block", "cyclic", "hashed", "blockcyclic", "low", "domain", "readFE", "read", "isFull", "writeXF", "add", "exchange", "compareAndSwap", "domain1", "array2", "\x1f", "~ ", "a\x7f", strings.Repeat("n", 40), strings.Repeat("n", 41), "?"+strings.Repeat("n", 40), strings.Repeat("s", 200), strings.Repeat("s", 201))
}

func (r sample) num() int {
	return []int{0, 0, 0, 0, 1, 2, 3, 4, 5, 6, 7, 8, 11, 12, 15, 16, 17, -1, math.MaxInt, math.MinInt}[r.Intn(20)]
}

// leaf returns a small node of a letter.
func (r sample) leaf(letter byte) api.Node {
	x := api.Node{Op: api.Name, Name: "x"}
	switch letter {
	case 'n':
		return x
	case 'x':
		return api.Node{Op: api.Index, Kids: []api.Node{x, x}}
	case 'c':
		return api.Node{Op: api.Call, Name: "f"}
	case 'm':
		return api.Node{Op: api.Method, Name: "readFE", Kids: []api.Node{x}}
	case 'S':
		return api.Node{Op: api.Str, Name: "s"}
	case 'e':
		return api.Node{Op: api.Int, Num: r.num()}
	case 'v':
		return api.Node{Op: api.Type, Name: "void"}
	case 't':
		return api.Node{Op: api.Type, Name: r.pick("int", "sync", "?t", "t")}
	case 'a':
		return api.Node{Op: api.Array, Kids: []api.Node{x}}
	case 'b':
		return api.Node{Op: api.BlockOf}
	case 'i':
		return api.Node{Op: api.Intent, Name: "+", Kids: []api.Node{x}}
	case 's':
		return api.Node{Op: api.Return}
	}
	return api.Node{Op: []int{0, -1, 20, 29, 32, 49, 68, 99}[r.Intn(8)]}
}

func (r sample) kids() []api.Node {
	words := []string{"", "e", "n", "ee", "en", "xe", "ne", "eee", "eeee", "eb", "ebb", "ebbb", "neb", "nneb", "nnneb", "nebi", "nebii", "nnebi", "b", "bb", "bbb", "c", "m", "t", "te", "a", "ae", "v", "ve", "cte", "cve", "ca", "eS", "S", "Se", "ss", "sbs", "i", "nn", "nnn", "?"}
	word := []byte(words[r.Intn(len(words))])
	for i := range word {
		if r.Intn(12) == 0 {
			word[i] = "nxcmSevtabis?"[r.Intn(13)]
		}
	}
	var l []api.Node
	for _, c := range word {
		l = append(l, r.leaf(c))
	}
	return l
}

func (r sample) node(rows map[int][]row) api.Node {
	return api.Node{Op: r.Intn(72) - 1, Name: r.name(), Num: r.num(), Kids: r.kids()}
}

// TestNodeRandom compares Node with the chapter's table, for nodes of all Ops.
func TestNodeRandom(t *testing.T) {
	r, o := sample{rand.New(rand.NewSource(13))}, newOracle()
	right := map[int]int{}
	for range 400000 {
		n := r.node(o.rows)
		if r.Intn(2) == 0 { // more of the right ones
			n.Name = ""
		}
		if r.Intn(2) == 0 {
			n.Num = 0
		}
		want := api.ErrForm
		if o.root(n) {
			want = api.OK
			right[n.Op]++
		}
		if e := check.Node(n); e != want {
			t.Fatalf("Node(%v) = %v, want %v", n, e, want)
		}
	}
	for op := range o.rows {
		if right[op] == 0 && op != api.Str && op != api.Intent {
			t.Errorf("no right node of Op %d was made", op)
		}
	}
}

// TestNodeWithin asks that nodes deep in a tree are looked at, too: each node is put into ones that may have it.
func TestNodeWithin(t *testing.T) {
	r, o := sample{rand.New(rand.NewSource(14))}, newOracle()
	x := api.Node{Op: api.Name, Name: "x"}
	for range 20000 {
		n := r.node(o.rows)
		for _, around := range []api.Node{
			{Op: api.Unary, Name: "-", Kids: []api.Node{n}},
			{Op: api.Write, Kids: []api.Node{x, n}},
			{Op: api.Call, Name: "f", Kids: []api.Node{n, x}},
			{Op: api.BlockOf, Kids: []api.Node{{Op: api.Return}, n}},
			{Op: api.Forall, Num: 1, Kids: []api.Node{x, x, {Op: api.BlockOf}, n}},
			{Op: api.Var, Name: "v", Num: api.HasType, Kids: []api.Node{n}},
			{Op: api.Do, Kids: []api.Node{n}},
		} {
			want := api.ErrForm
			if o.root(around) {
				want = api.OK
			}
			if e := check.Node(around); e != want {
				t.Fatalf("Node(%v) = %v, want %v", around, e, want)
			}
		}
	}
}

// TestNodeOps asks for all Ops with the least and the greatest of their Kids, by hand.
func TestNodeOps(t *testing.T) {
	x := api.Node{Op: api.Name, Name: "x"}
	for _, c := range []struct {
		n    api.Node
		want api.Errno
	}{
		{api.Node{}, api.ErrForm},
		{api.Node{Op: api.Int, Num: math.MinInt}, api.OK},
		{api.Node{Op: api.Int, Name: "x"}, api.ErrForm},
		{api.Node{Op: api.Int, Kids: []api.Node{x}}, api.ErrForm},
		{api.Node{Op: api.Int, Kids: []api.Node{}}, api.OK},
		{api.Node{Op: api.Str, Name: "s"}, api.ErrForm},
		{api.Node{Op: api.Intent, Name: "+", Kids: []api.Node{x}}, api.ErrForm},
		{api.Node{Op: api.Type, Name: "void"}, api.OK},
		{api.Node{Op: api.Reduce, Name: "&&", Kids: []api.Node{x}}, api.ErrForm},
		{api.Node{Op: api.Cobegin}, api.ErrForm},
		{api.Node{Op: api.Var, Name: "v", Num: api.IsConst, Kids: nil}, api.ErrForm},
		{api.Node{Op: api.Var, Name: "v", Num: api.HasInit | api.IsConst | api.IsParam, Kids: []api.Node{x}}, api.OK},
		{api.Node{Op: api.Var, Name: "v", Num: api.HasType, Kids: []api.Node{{Op: api.Type, Name: "void"}}}, api.ErrForm},
		{api.Node{Op: api.Write, Kids: []api.Node{{Op: api.Str, Name: "\n"}}}, api.ErrForm},
		{api.Node{Op: api.Write, Kids: []api.Node{{Op: api.Str, Num: 1}}}, api.ErrForm},
		{api.Node{Op: api.Write, Kids: []api.Node{{Op: api.Str, Name: strings.Repeat("s", 200)}}}, api.OK},
		{api.Node{Op: api.Write, Kids: []api.Node{{Op: api.Str, Name: strings.Repeat("s", 201)}}}, api.ErrForm},
		{api.Node{Op: api.Write, Kids: []api.Node{{Op: api.Str, Name: " ~"}}}, api.OK},
		{api.Node{Op: api.Write, Kids: []api.Node{{Op: api.Str, Name: "\x7f"}}}, api.ErrForm},
		{api.Node{Op: api.Write, Kids: []api.Node{{Op: api.Str, Name: "\xff"}}}, api.ErrForm},
		{api.Node{Op: api.Write, Kids: []api.Node{{Op: api.Str}, x, {Op: api.Str, Name: "a\"\\"}}}, api.OK},
		{api.Node{Op: api.Write, Kids: []api.Node{{Op: api.Str, Kids: []api.Node{x}}}}, api.ErrForm},
	} {
		if e := check.Node(c.n); e != c.want {
			t.Errorf("Node(%v) = %v, want %v", c.n, e, c.want)
		}
	}
}

// chain returns a tree of a depth.
func chain(depth int, end api.Node) api.Node {
	for range depth - 1 {
		end = api.Node{Op: api.Unary, Name: "-", Kids: []api.Node{end}}
	}
	return end
}

// wide returns a statement with so many nodes.
func wide(nodes int) api.Node {
	n := api.Node{Op: api.Write}
	for range nodes - 1 {
		n.Kids = append(n.Kids, api.Node{Op: api.Int, Num: 1})
	}
	return n
}

func TestNodeLimits(t *testing.T) {
	one, wrong := api.Node{Op: api.Int, Num: 1}, api.Node{Op: 99}
	loop := []api.Node{{Op: api.BlockOf}}
	loop[0].Kids = loop
	twice := one
	for range 100 {
		twice = api.Node{Op: api.Binary, Name: "+", Kids: []api.Node{twice, twice}}
	}
	deepAndWide := wide(4000)
	deepAndWide.Kids[0] = chain(60, one)
	for i, c := range []struct {
		n    api.Node
		want api.Errno
	}{
		{chain(60, one), api.OK},
		{chain(61, one), api.ErrDepth},
		{chain(61, wrong), api.ErrDepth},
		{chain(60, wrong), api.ErrForm},
		{chain(5000, one), api.ErrCount},
		{chain(4000, one), api.ErrDepth},
		{wide(4000), api.OK},
		{wide(4001), api.ErrCount},
		{wide(100000), api.ErrCount},
		{deepAndWide, api.ErrCount},
		{loop[0], api.ErrCount},
		{twice, api.ErrCount},
	} {
		if e := check.Node(c.n); e != c.want {
			t.Errorf("%d: Node = %v, want %v", i, e, c.want)
		}
	}
}

func kind(name string) api.Node { return api.Node{Op: api.Type, Name: name} }

func empty(name string) api.Proc { return api.Proc{Name: name, Result: kind("void")} }

// TestForm asks for the form of each part of a program.
func TestForm(t *testing.T) {
	one := api.Node{Op: api.Int, Num: 1}
	global := api.Node{Op: api.Var, Name: "g", Num: api.HasInit, Kids: []api.Node{one}}
	formals := func(l ...api.Formal) api.Program {
		p := empty("f")
		p.Formals = l
		return api.Program{Procs: []api.Proc{p}}
	}
	result := func(n api.Node) api.Program { return api.Program{Procs: []api.Proc{{Name: "f", Result: n}}} }
	where := func(l ...api.Node) api.Program {
		p := empty("f")
		p.Where = l
		return api.Program{Procs: []api.Proc{p}}
	}
	body := func(l ...api.Node) api.Program {
		p := empty("f")
		p.Body = l
		return api.Program{Procs: []api.Proc{p}}
	}
	for i, c := range []struct {
		p    api.Program
		want api.Errno
	}{
		{api.Program{}, api.OK},
		{api.Program{Globals: []api.Node{global, global}}, api.OK},
		{api.Program{Globals: []api.Node{one}}, api.ErrForm},
		{api.Program{Globals: []api.Node{{Op: api.BlockOf}}}, api.ErrForm},
		{api.Program{Globals: []api.Node{{Op: api.Var, Name: "g"}}}, api.ErrForm},
		{api.Program{Procs: []api.Proc{empty("f"), empty("f")}}, api.OK},
		{api.Program{Procs: []api.Proc{empty("")}}, api.ErrForm},
		{api.Program{Procs: []api.Proc{empty("a.b")}}, api.ErrForm},
		{api.Program{Procs: []api.Proc{empty(strings.Repeat("n", 41))}}, api.ErrForm},
		{formals(api.Formal{Name: "a", Type: kind("int")}, api.Formal{Intent: "in", Name: "a", Type: kind("?t")}, api.Formal{Intent: "const", Name: "b", Type: kind("array2")}, api.Formal{Intent: "param", Name: "c", Type: kind("t")}, api.Formal{Intent: "type", Name: "d"}), api.OK},
		{formals(api.Formal{Intent: "ref", Name: "a", Type: kind("int")}), api.ErrForm},
		{formals(api.Formal{Intent: "type", Name: "a", Type: kind("int")}), api.ErrForm},
		{formals(api.Formal{Intent: "type", Name: "a", Type: api.Node{Num: 1}}), api.ErrForm},
		{formals(api.Formal{Intent: "type", Name: "a", Type: api.Node{Name: "x"}}), api.ErrForm},
		{formals(api.Formal{Intent: "type", Name: "a", Type: api.Node{Kids: []api.Node{}}}), api.OK},
		{formals(api.Formal{Intent: "type", Name: ""}), api.ErrForm},
		{formals(api.Formal{Name: "a"}), api.ErrForm},
		{formals(api.Formal{Name: "a", Type: kind("void")}), api.ErrForm},
		{formals(api.Formal{Name: "a", Type: kind("?int")}), api.ErrForm},
		{formals(api.Formal{Name: "1", Type: kind("int")}), api.ErrForm},
		{formals(api.Formal{Name: "a", Type: api.Node{Op: api.Array, Kids: []api.Node{one}}}), api.ErrForm},
		{formals(slices.Repeat([]api.Formal{{Name: "a", Type: kind("int")}}, 20)...), api.OK},
		{formals(slices.Repeat([]api.Formal{{Name: "a", Type: kind("int")}}, 21)...), api.ErrCount},
		{formals(slices.Repeat([]api.Formal{{}}, 21)...), api.ErrCount},
		{result(kind("?t")), api.OK},
		{result(kind("array1")), api.OK},
		{result(one), api.ErrForm},
		{result(api.Node{}), api.ErrForm},
		{result(api.Node{Op: api.Array, Kids: []api.Node{one}}), api.ErrForm},
		{where(one), api.OK},
		{where(one, one), api.ErrForm},
		{where(kind("int")), api.ErrForm},
		{where(chain(61, one)), api.ErrDepth},
		{body(wide(2), api.Node{Op: api.BlockOf}), api.OK},
		{body(one), api.ErrForm},
		{body(kind("int")), api.ErrForm},
		{body(api.Node{Op: api.Intent, Name: "+", Kids: []api.Node{{Op: api.Name, Name: "x"}}}), api.ErrForm},
		{api.Program{Procs: slices.Repeat([]api.Proc{empty("f")}, 100)}, api.OK},
		{api.Program{Procs: slices.Repeat([]api.Proc{empty("f")}, 101)}, api.ErrCount},
		{body(wide(1999), wide(2000)), api.OK},            // and the Result
		{body(wide(2000), wide(2000)), api.ErrCount},      // together
		{body(wide(1999), wide(2000), one), api.ErrCount}, // ahead of the form
		{api.Program{Globals: []api.Node{chain(61, one)}}, api.ErrDepth},
		{api.Program{Globals: []api.Node{one}, Procs: body(chain(61, one)).Procs}, api.ErrDepth},
	} {
		if e := check.Form(c.p); e != c.want {
			t.Errorf("%d: Form = %v, want %v", i, e, c.want)
		}
	}
}

// TestFormTypeCounts asks that a formal argument without a type counts no node.
func TestFormTypeCounts(t *testing.T) {
	p := empty("f")
	p.Formals = []api.Formal{{Intent: "type", Name: "t"}}
	p.Body = []api.Node{wide(3999)}
	if e := check.Form(api.Program{Procs: []api.Proc{p}}); e != api.OK {
		t.Errorf("Form = %v", e)
	}
	p.Formals = []api.Formal{{Name: "t", Type: kind("int")}}
	if e := check.Form(api.Program{Procs: []api.Proc{p}}); e != api.ErrCount {
		t.Errorf("Form = %v, want ErrCount", e)
	}
}

func TestFind(t *testing.T) {
	p := api.Program{Procs: []api.Proc{empty("f"), empty("g"), empty("g")}}
	for name, want := range map[string]int{"f": 0, "g": 1, "h": -1, "": -1} {
		if got := check.Find(p, name); got != want {
			t.Errorf("Find(%q) = %d, want %d", name, got, want)
		}
	}
}
