package syntax_test

import (
	"strconv"
	"strings"

	"raddle/api"
	"raddle/syntax"
	"raddle/token"
)

// loose writes any trees and modules as texts with more brackets and gaps than are needed. What is not right has a text, too, which is not read as it.
type loose struct {
	random
	text strings.Builder
}

const wrongPart = " @ " // begins no token

func (w *loose) gap() {
	gaps := []string{" ", "  ", "\n", "\t", " // x { \"\n", " /* } /* */ ( */ ", "\r\n"}
	w.text.WriteString(gaps[w.Intn(len(gaps))])
}

func (w *loose) say(words ...string) {
	for _, x := range words {
		w.text.WriteString(x)
		w.gap()
	}
}

// fields says of a node that has wrong values in fields which its Op does not use that it has no text.
func (w *loose) fields(n api.Node, name, num bool, least, most int) bool {
	if n.Name != "" && !name || n.Num != 0 && !num || len(n.Kids) < least || len(n.Kids) > most {
		w.say(wrongPart)
		return false
	}
	return true
}

func (w *loose) list(l []api.Node, part func(api.Node)) {
	for i, n := range l {
		if i > 0 {
			w.say(",")
		}
		part(n)
	}
}

// operand writes an expression in brackets.
func (w *loose) operand(n api.Node) {
	w.say("(")
	w.expr(n)
	w.say(")")
}

// expr writes an expression, perhaps in brackets, where it may stand without.
func (w *loose) expr(n api.Node) {
	if w.Intn(6) == 0 {
		w.operand(n)
		return
	}
	switch n.Op {
	case api.Int:
		if w.fields(n, false, true, 0, 0) {
			w.say(strconv.Itoa(n.Num))
		}
	case api.Bool:
		if n.Num != 0 && n.Num != 1 {
			w.say(wrongPart)
		} else if w.fields(n, false, true, 0, 0) {
			w.say(strconv.FormatBool(n.Num == 1))
		}
	case api.Name:
		if w.fields(n, true, false, 0, 0) {
			w.say(n.Name)
		}
	case api.Here, api.NumLocales:
		if w.fields(n, false, false, 0, 0) {
			w.say(map[int]string{api.Here: "here", api.NumLocales: "numLocales"}[n.Op])
		}
	case api.Unary, api.Reduce:
		if w.fields(n, true, false, 1, 1) {
			w.say(n.Name, map[int]string{api.Unary: "", api.Reduce: "reduce"}[n.Op])
			w.operand(n.Kids[0])
		}
	case api.Binary:
		if w.fields(n, true, false, 2, 2) {
			w.operand(n.Kids[0])
			w.say(n.Name)
			w.operand(n.Kids[1])
		}
	case api.RangeOf, api.By, api.Count:
		if w.fields(n, false, false, 2, 2) {
			w.operand(n.Kids[0])
			w.say(map[int]string{api.RangeOf: "..", api.By: "by", api.Count: "#"}[n.Op])
			w.operand(n.Kids[1])
		}
	default:
		w.longer(n)
	}
}

func (w *loose) longer(n api.Node) {
	switch n.Op {
	case api.Cond:
		if w.fields(n, false, false, 3, 3) {
			for i, word := range []string{"if", "then", "else"} {
				w.say(word)
				w.expr(n.Kids[i])
			}
		}
	case api.DomainOf:
		if w.fields(n, false, false, 1, 2) {
			w.say("{")
			w.list(n.Kids, w.expr)
			w.say("}")
		}
	case api.Mapped:
		if w.fields(n, true, false, 1, 2) {
			w.operand(n.Kids[0])
			w.say("dmapped", n.Name)
			for _, k := range n.Kids[1:] {
				w.operand(k)
			}
		}
	case api.Index:
		if w.fields(n, false, false, 2, 3) {
			w.operand(n.Kids[0])
			w.say("[")
			w.list(n.Kids[1:], w.expr)
			w.say("]")
		}
	case api.Call:
		if w.fields(n, true, false, 0, 9999) {
			w.say(n.Name, "(")
			w.list(n.Kids, func(k api.Node) {
				if k.Op == api.Type {
					w.typeOf(k)
				} else {
					w.expr(k)
				}
			})
			w.say(")")
		}
	case api.Field:
		if w.fields(n, true, false, 1, 1) {
			w.operand(n.Kids[0])
			w.say(".", n.Name)
		}
	case api.Method:
		if w.fields(n, true, false, 1, 9999) {
			w.operand(n.Kids[0])
			w.say(".", n.Name, "(")
			w.list(n.Kids[1:], w.expr)
			w.say(")")
		}
	default:
		w.say(wrongPart)
	}
}

func (w *loose) typeOf(n api.Node) {
	switch {
	case n.Op == api.Array && w.fields(n, false, false, 1, 1):
		w.say("[")
		w.expr(n.Kids[0])
		w.say("]", "int")
	case n.Op == api.Type && w.fields(n, true, false, 0, 0):
		switch n.Name {
		case "domain1", "domain2", "array1", "array2":
			w.say(n.Name[:len(n.Name)-1], "(", n.Name[len(n.Name)-1:], ")")
		default:
			w.say(n.Name)
		}
	default:
		w.say(wrongPart)
	}
}

func (w *loose) block(n api.Node) {
	if n.Op != api.BlockOf || !w.fields(n, false, false, 0, 9999) {
		w.say(wrongPart)
		return
	}
	w.braces(n.Kids)
}

func (w *loose) braces(l []api.Node) {
	w.say("{")
	for _, k := range l {
		w.statement(k)
	}
	w.say("}")
}

func (w *loose) variable(n api.Node) {
	if n.Op != api.Var {
		w.say(wrongPart)
		return
	}
	flags := []bool{n.Num&1 != 0, n.Num&2 != 0, n.Num&4 != 0, n.Num&8 != 0}
	count := 0
	for _, f := range flags[:2] {
		if f {
			count++
		}
	}
	if n.Num < 0 || n.Num > 15 || flags[2] && flags[3] || !w.fields(n, true, true, count, count) {
		w.say(wrongPart)
		return
	}
	w.say(map[int]string{0: "var", 1: "const", 2: "param"}[n.Num>>2], n.Name)
	kids := n.Kids
	if flags[0] {
		w.say(":")
		w.typeOf(kids[0])
		kids = kids[1:]
	}
	if flags[1] {
		w.say("=")
		w.expr(kids[0])
	}
	w.say(";")
}

func (w *loose) statement(n api.Node) {
	words := map[int]string{api.While: "while", api.On: "on", api.Begin: "begin", api.Sync: "sync"}
	switch n.Op {
	case api.Var:
		w.variable(n)
	case api.BlockOf:
		w.block(n)
	case api.Assign:
		if w.fields(n, true, false, 2, 2) {
			w.expr(n.Kids[0])
			w.say(n.Name)
			w.expr(n.Kids[1])
			w.say(";")
		}
	case api.If:
		if w.fields(n, false, false, 2, 3) {
			w.choice(n)
		}
	case api.While, api.On:
		if w.fields(n, false, false, 2, 2) {
			w.say(words[n.Op])
			w.expr(n.Kids[0])
			w.block(n.Kids[1])
		}
	case api.Begin, api.Sync:
		if w.fields(n, false, false, 1, 1) {
			w.say(words[n.Op])
			w.block(n.Kids[0])
		}
	case api.Cobegin:
		if w.fields(n, false, false, 0, 9999) {
			w.say("cobegin", "{")
			for _, k := range n.Kids {
				w.block(k)
			}
			w.say("}")
		}
	case api.For, api.Forall, api.Coforall:
		w.loop(n)
	default:
		w.simple(n)
	}
}

func (w *loose) choice(n api.Node) {
	w.say("if")
	w.expr(n.Kids[0])
	w.block(n.Kids[1])
	if len(n.Kids) < 3 {
		return
	}
	w.say("else")
	other := n.Kids[2]
	single := other.Op == api.BlockOf && other.Name == "" && other.Num == 0 && len(other.Kids) == 1 && other.Kids[0].Op == api.If
	if single && w.Intn(2) == 0 {
		w.statement(other.Kids[0])
		return
	}
	w.block(other)
}

func (w *loose) loop(n api.Node) {
	if n.Num != 1 && n.Num != 2 || !w.fields(n, false, true, n.Num+2, 9999) || n.Op != api.Forall && len(n.Kids) > n.Num+2 {
		w.say(wrongPart)
		return
	}
	w.say(map[int]string{api.For: "for", api.Forall: "forall", api.Coforall: "coforall"}[n.Op])
	if n.Num == 2 {
		w.say("(")
		w.list(n.Kids[:2], w.plain)
		w.say(")")
	} else {
		w.plain(n.Kids[0])
	}
	w.say("in")
	w.expr(n.Kids[n.Num])
	if intents := n.Kids[n.Num+2:]; len(intents) > 0 {
		w.say("with", "(")
		w.list(intents, func(k api.Node) {
			if k.Op != api.Intent || !w.fields(k, true, false, 1, 1) {
				w.say(wrongPart)
				return
			}
			w.say(k.Name, "reduce")
			w.plain(k.Kids[0])
		})
		w.say(")")
	}
	w.block(n.Kids[n.Num+1])
}

func (w *loose) plain(n api.Node) {
	if n.Op != api.Name || !w.fields(n, true, false, 0, 0) {
		w.say(wrongPart)
		return
	}
	w.say(n.Name)
}

func (w *loose) simple(n api.Node) {
	switch n.Op {
	case api.Return, api.Yield:
		if w.fields(n, false, false, 0, 1) {
			w.say(map[int]string{api.Return: "return", api.Yield: "yield"}[n.Op])
			w.list(n.Kids, w.expr)
			w.say(";")
		}
	case api.Do:
		if w.fields(n, false, false, 1, 1) {
			w.expr(n.Kids[0])
			w.say(";")
		}
	case api.Write:
		if w.fields(n, false, false, 0, 9999) {
			w.say("write", "(")
			w.list(n.Kids, func(k api.Node) {
				if k.Op == api.Str && w.fields(k, true, false, 0, 0) {
					text, _ := token.Write(token.Token{Kind: token.String, Text: k.Name})
					w.say(text)
					return
				}
				w.expr(k)
			})
			w.say(")", ";")
		}
	case api.Assert:
		if w.fields(n, false, false, 1, 1) {
			w.say("assert", "(")
			w.expr(n.Kids[0])
			w.say(")", ";")
		}
	default:
		w.say(wrongPart)
	}
}

func (w *loose) module(m syntax.Module) {
	w.say("module", m.Name, "{")
	parts := []func(){}
	for _, u := range m.Uses {
		parts = append(parts, func() { w.use(u) })
	}
	at := len(parts)
	for _, g := range m.Globals {
		parts = append(parts, func() {
			if g.Private {
				w.say("private")
			}
			w.variable(g.Var)
		})
	}
	procs := len(parts)
	for _, p := range m.Procs {
		parts = append(parts, func() { w.proc(p) })
	}
	for lists := [][]func(){parts[:at], parts[at:procs], parts[procs:]}; ; { // in any order that keeps that of each list
		k := w.Intn(3)
		if len(lists[0])+len(lists[1])+len(lists[2]) == 0 {
			break
		}
		if len(lists[k]) > 0 {
			lists[k][0]()
			lists[k] = lists[k][1:]
		}
	}
	w.say("}")
}

func (w *loose) use(u syntax.Use) {
	if u.Kind < 0 || u.Kind > 3 || (u.As != "") != (u.Kind == syntax.Import) || (len(u.Names) > 0) != (u.Kind == syntax.Only || u.Kind == syntax.Except) {
		w.say(wrongPart)
		return
	}
	w.say([]string{"use", "use", "use", "import"}[u.Kind], u.Module)
	w.say([]string{"", "only", "except", "as"}[u.Kind], u.As, strings.Join(u.Names, ", "), ";")
}

func (w *loose) proc(p api.Proc) {
	if p.Private {
		w.say("private")
	}
	w.say(map[bool]string{false: "proc", true: "iter"}[p.Iter], p.Name, "(")
	for i, f := range p.Formals {
		if i > 0 {
			w.say(",")
		}
		w.say(f.Intent, f.Name)
		if f.Intent != "type" {
			w.say(":")
			w.typeOf(f.Type)
		} else if f.Type.Op != 0 || f.Type.Name != "" || f.Type.Num != 0 || len(f.Type.Kids) > 0 {
			w.say(wrongPart)
		}
	}
	w.say(")")
	if !syntax.Same(p.Result, api.Node{Op: api.Type, Name: "void"}) || w.Intn(2) == 0 {
		w.say(":")
		w.typeOf(p.Result)
	}
	if len(p.Where) > 1 {
		w.say(wrongPart)
	}
	for _, n := range p.Where {
		w.say("where")
		w.expr(n)
	}
	w.braces(p.Body)
}

func (r random) looseText(l []syntax.Module) string {
	w := loose{random: r}
	w.gap()
	for _, m := range l {
		w.module(m)
	}
	return w.text.String()
}

func (r random) looseExpr(n api.Node) string {
	w := loose{random: r}
	w.expr(n)
	return w.text.String()
}
