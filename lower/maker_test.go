package lower_test

import (
	"math/rand"
	"strconv"
	"strings"
)

// local is a name that is visible, with its type.
type local struct {
	name, kind string
	mutable    bool
}

// formal is a formal argument of a procedure that is made.
type formal struct{ intent, name, kind string }

// head is a procedure, or an iterator, that can be called: the result is empty for none.
type head struct {
	name    string
	iter    bool
	formals []formal
	result  string
}

// maker makes programs, in which each procedure calls only later ones, and most indices exist.
type maker struct {
	*rand.Rand
	heads []head
}

// room is where statements are made: what is visible, what may be called, and whether a Yield or a Return may stand there.
type room struct {
	names   []local
	from    int
	inside  *head
	leaves  bool
	depth   int
	handsOn bool
}

func (r *maker) one(words string) string {
	return r.pick(strings.Fields(words)...)
}

func (r *maker) pick(l ...string) string { return l[r.Intn(len(l))] }

func (r *maker) chance(n int) bool { return r.Intn(n) == 0 }

// visible returns the names with a type.
func (c room) visible(kind string, mutable bool) []string {
	var all []string
	seen := map[string]bool{}
	for i := len(c.names) - 1; i >= 0; i-- {
		l := c.names[i]
		if !seen[l.name] && l.kind == kind && (l.mutable || !mutable) {
			all = append(all, l.name)
		}
		seen[l.name] = true
	}
	return all
}

func (c room) with(l ...local) room {
	c.names = append(c.names[:len(c.names):len(c.names)], l...)
	return c
}

// deeper returns the room of a block.
func (c room) deeper() room {
	c.depth--
	return c
}

// task returns the room of a task body: all locals are const there.
func (c room) task() room {
	var names []local
	for _, l := range c.names {
		l.mutable = l.mutable && isGlobal(l.name)
		names = append(names, l)
	}
	c.names, c.leaves = names, false
	return c.deeper()
}

func (c room) held() room {
	c.leaves = false
	return c.deeper()
}

// The globals: locals have other names, but for x and y, which they hide.
const globalVars = "var g_x = 3; var g_b = true; const g_r = -2..2; const g_d = {-3..3, 0..1} dmapped cyclic; var g_1: [{-3..3} dmapped block] int; var g_2: [g_d] int; var g_q: atomic; var g_c: sync; var x = 4; var y = 5; "

func isGlobal(name string) bool { return strings.HasPrefix(name, "g_") }

func globalRoom() room {
	return room{leaves: true, names: []local{
		{"g_x", "int", true}, {"g_b", "bool", true}, {"g_r", "range", false}, {"g_d", "domain(2)", false},
		{"g_1", "array(1)", false}, {"g_2", "array(2)", false}, {"g_q", "atomic", false}, {"g_c", "sync", false}, {"x", "int", false}, {"y", "int", false}}}
}

func (r *maker) program() string {
	r.heads = nil
	for i := range 3 + r.Intn(4) {
		h := head{name: "f" + strconv.Itoa(i), iter: r.chance(2), result: r.one("int int bool")}
		for j := range r.Intn(4) {
			h.formals = append(h.formals, formal{r.one("in const -"), r.one("x n"+strconv.Itoa(j)) + strings.Repeat("_", j), r.one("int int bool range array(1) array(2) atomic sync")})
		}
		r.heads = append(r.heads, h)
	}
	text := globalVars
	for i := range r.heads {
		h := &r.heads[i]
		c := globalRoom()
		c.from, c.inside, c.depth = i+1, h, 2
		var l []string
		for _, f := range h.formals {
			c = c.with(local{f.name, f.kind, f.intent == "in" && (f.kind == "int" || f.kind == "bool")})
			l = append(l, strings.TrimPrefix(f.intent+" "+f.name+": "+f.kind, "- "))
		}
		word, end := "proc ", "return "+r.value(c, h.result, 2)+"; "
		if h.iter {
			word, end = "iter ", "yield "+r.value(c, h.result, 2)+"; "
		}
		text += word + h.name + "(" + strings.Join(l, ", ") + "): " + h.result + " { { " + r.statements(c) + "} " + end + "} "
	}
	c := globalRoom()
	c.depth = 3
	return text + "proc main() { { " + r.statements(c) + "} { " + r.statements(c) + "} write(g_x, \" \", g_b, \" \", + reduce g_1, \" \", + reduce g_2, \" \", g_q.read()); }"
}

// value makes an expression of a type.
func (r *maker) value(c room, kind string, depth int) string {
	names := c.visible(kind, false)
	switch kind {
	case "bool":
		return r.truth(c, depth)
	case "range":
		if r.chance(2) {
			return r.span(c)
		}
	case "int":
		return r.number(c, depth)
	}
	return names[r.Intn(len(names))]
}

func (r *maker) small() string { return strconv.Itoa(r.Intn(6) - 2) }

func (r *maker) number(c room, depth int) string {
	n := func() string { return r.number(c, depth-1) }
	if depth > 0 {
		switch r.Intn(12) {
		case 0, 1:
			return "(" + n() + r.pick(" + ", " - ") + n() + ")"
		case 2:
			return "(" + n() + " * " + r.small() + ")"
		case 3:
			return "(" + n() + r.pick(" / ", " % ") + r.pick("2", "3", "7", "-2", "-2", "3", "(here + 1)", "here") + ")"
		case 4:
			return r.value(c, "array(1)", 0) + "[" + n() + r.within() + "]"
		case 5:
			return r.value(c, "array(2)", 0) + "[" + n() + " % 4, " + r.one("0 1") + "]"
		case 6:
			return "(if " + r.truth(c, depth-1) + " then " + n() + " else " + n() + ")"
		case 7:
			return "(" + r.one("+ min max") + " reduce " + r.value(c, r.one("range array(1) array(2)"), 0) + ")"
		case 8:
			return r.value(c, r.one("range domain(2) array(1) array(2)"), 0) + ".size"
		case 9:
			return r.value(c, "atomic", 0) + r.one(".read() .fetchAdd(1) .exchange(3)")
		case 10:
			if s := r.call(c, "int", false); s != "" {
				return s
			}
		case 11:
			return "(-" + n() + ")"
		}
	}
	if names := c.visible("int", false); len(names) > 0 && !r.chance(3) {
		return r.pick(names...)
	}
	return r.one("0 1 2 3 -1 here numLocales g_r.low g_c.readXX()")
}

// within puts a number into the indices of arrays; seldom not.
func (r *maker) within() string {
	if r.chance(20) {
		return " % 5"
	}
	return " % 4"
}

func (r *maker) truth(c room, depth int) string {
	if depth > 0 {
		switch r.Intn(5) {
		case 0, 1:
			return "(" + r.number(c, depth-1) + " " + r.one("== != < <= > >=") + " " + r.number(c, depth-1) + ")"
		case 2:
			return "(" + r.truth(c, depth-1) + " " + r.one("&& ||") + " " + r.truth(c, depth-1) + ")"
		case 3:
			return "!" + r.truth(c, 0)
		case 4:
			if s := r.call(c, "bool", false); s != "" {
				return s
			}
		}
	}
	if names := c.visible("bool", false); len(names) > 0 && r.chance(2) {
		return names[r.Intn(len(names))]
	}
	return r.one("true false g_c.isFull() g_q.compareAndSwap(3,4)")
}

func (r *maker) span(c room) string {
	if r.chance(4) {
		return "(-1.." + r.small() + " + 3" + r.pick(" # 1", " # -2", " by 2 # 1", " by -1 # 0") + ")"
	}
	return "(" + r.small() + ".." + r.number(c, 0) + " % 4" + r.pick("", " by 2", " by -1", " # 0") + ")"
}

// call makes a call of a procedure, or of an iterator, with a result; the empty text, if there is none.
func (r *maker) call(c room, result string, iter bool) string {
	for range 5 {
		if c.from >= len(r.heads) {
			return ""
		}
		h := r.heads[c.from+r.Intn(len(r.heads)-c.from)]
		if h.iter != iter || h.result != result {
			continue
		}
		var l []string
		for _, f := range h.formals {
			l = append(l, r.value(c, f.kind, 1))
		}
		return h.name + "(" + strings.Join(l, ", ") + ")"
	}
	return ""
}

// statements makes a block.
func (r *maker) statements(c room) string {
	var b strings.Builder
	taken := map[string]bool{}
	for range 1 + r.Intn(3) {
		if name := r.one("x y v w"); r.chance(3) && !taken[name] {
			taken[name] = true
			kind := r.one("int int bool range")
			mutable := kind != "range" && !r.chance(4)
			b.WriteString(map[bool]string{true: "var ", false: "const "}[mutable] + name + " = " + r.value(c, kind, 2) + "; ")
			c = c.with(local{name, kind, mutable})
			continue
		}
		if c.depth > 0 {
			b.WriteString(r.compound(c))
		}
		b.WriteString(r.simple(c))
	}
	return b.String()
}

func (r *maker) simple(c room) string {
	switch r.Intn(10) {
	case 0, 1:
		if names := c.visible("int", true); len(names) > 0 {
			return names[r.Intn(len(names))] + r.pick(" = ", " += ", " -= ") + r.number(c, 2) + "; "
		}
	case 2:
		if names := c.visible("bool", true); len(names) > 0 {
			return names[r.Intn(len(names))] + " = " + r.truth(c, 2) + "; "
		}
	case 3:
		return r.value(c, "array(1)", 0) + "[" + r.number(c, 1) + " % 4]" + r.pick(" = ", " += ") + r.number(c, 1) + "; "
	case 4:
		return r.value(c, "array(2)", 0) + "[" + r.number(c, 1) + " % 4, " + r.one("0 1") + "]" + r.pick(" = ", " -= ", " *= ") + r.number(c, 1) + "; "
	case 5:
		return r.pick("g_q.add(2); ", "g_c.writeXF(7); ", "g_q.write(1); ", "g_c.reset(); ", "assert(here < 9); ", "g_q.fetchAdd(-1); ")
	case 6:
		if s := r.call(c, r.one("int bool"), false); s != "" {
			return s + "; "
		}
	case 7:
		if c.leaves && c.inside != nil && c.inside.iter && !r.chance(3) {
			return "yield " + r.value(c, c.inside.result, 2) + "; "
		}
	case 8:
		if c.leaves && r.chance(4) && c.inside != nil && !c.inside.iter {
			return "if " + r.truth(c, 1) + " { return " + r.value(c, c.inside.result, 1) + "; } "
		}
	}
	return "write(\"w \", " + r.number(c, 2) + ", \" \", " + r.truth(c, 1) + "); "
}

func (r *maker) compound(c room) string {
	block := func(c room) string { return " { " + r.statements(c) + "} " }
	i := r.one("i j x")
	element := local{i, "int", false}
	switch r.Intn(13) {
	case 0:
		return "if " + r.truth(c, 2) + block(c.deeper())
	case 1:
		return "if " + r.truth(c, 2) + block(c.deeper()) + "else" + block(c.deeper())
	case 2:
		n := "k" + strconv.Itoa(c.depth)
		return "{ var " + n + " = 0; while " + n + " < " + r.one("2 3") + " && " + r.truth(c, 1) + " { " + n + " += 1; " + r.statements(c.deeper().with(local{n, "int", false})) + "} } "
	case 3:
		return "for " + i + " in " + r.value(c, r.one("range array(1) array(2)"), 0) + block(c.deeper().with(element))
	case 4:
		return "for (" + i + ", v) in " + r.value(c, "domain(2)", 0) + block(c.deeper().with(element, local{"v", "int", false}))
	case 5, 6, 7:
		kind := r.one("int int bool")
		if s := r.call(c, kind, true); s != "" {
			return "for " + i + " in " + s + block(c.deeper().with(local{i, kind, false}))
		}
	case 8:
		return "coforall " + i + " in " + r.value(c, "range", 0) + block(c.task().with(element))
	case 9:
		return "begin" + block(c.task())
	case 10:
		return "cobegin { " + block(c.task()) + block(c.task()) + "} "
	case 11:
		if r.chance(2) {
			return "sync" + block(c.held())
		}
		return "on " + r.one("0 numLocales-1 here") + block(c.held())
	case 12:
		return r.forall(c, element)
	}
	return " { " + r.statements(c.deeper()) + "} "
}

func (r *maker) forall(c room, element local) string {
	inner := c.task()
	with := ""
	if names := c.visible("int", true); len(names) > 0 && !isGlobal(names[0]) && names[0] != element.name {
		with = " with (" + r.one("+ min max") + " reduce " + names[0] + ")"
		inner = inner.with(local{names[0], "int", true})
	}
	if r.chance(3) && !strings.Contains(with, " v)") {
		return "forall (" + element.name + ", v) in " + r.pick("g_d", "{0..1, 2..4} dmapped block", "{0..1, g_r} dmapped blockcyclic(2)") + with + " { " + r.statements(inner.with(element, local{"v", "int", false})) + "} "
	}
	return "forall " + element.name + " in " + r.value(c, "range", 0) + with + " { " + r.statements(inner.with(element)) + "} "
}
