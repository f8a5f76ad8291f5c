package syntax

import (
	"slices"
	"strconv"
	"strings"

	"raddle/api"
	"raddle/token"
)

// writer has the text so far, the number of blocks that are open, and the rules by the Ops.
type writer struct {
	text  []byte
	open  int
	rules [api.Intent + 1]func(*writer, api.Node)
}

type tooLarge struct{}

// written returns the text that is written in some open blocks.
func written(open int, write func(*writer)) (text string, e api.Errno) {
	defer func() {
		if _, ok := recover().(tooLarge); ok {
			text, e = "", api.ErrLarge
		}
	}()
	w := writer{open: open, rules: rules()}
	write(&w)
	return string(w.text), api.OK
}

func rules() [api.Intent + 1]func(*writer, api.Node) {
	return [api.Intent + 1]func(*writer, api.Node){
		api.Int:        (*writer).number,
		api.Bool:       (*writer).truth,
		api.Str:        (*writer).quoted,
		api.Name:       (*writer).name,
		api.Unary:      (*writer).prefix,
		api.Binary:     (*writer).binary,
		api.RangeOf:    (*writer).rangeOf,
		api.By:         (*writer).changed,
		api.Count:      (*writer).changed,
		api.DomainOf:   (*writer).domain,
		api.Mapped:     (*writer).mapped,
		api.Index:      (*writer).index,
		api.Call:       (*writer).call,
		api.Field:      (*writer).field,
		api.Method:     (*writer).method,
		api.Here:       (*writer).here,
		api.NumLocales: (*writer).numLocales,
		api.Reduce:     (*writer).reduce,
		api.Cond:       (*writer).conditional,
		api.Type:       (*writer).typeName,
		api.Array:      (*writer).array,
		api.Var:        (*writer).variable,
		api.Assign:     (*writer).assign,
		api.If:         (*writer).choice,
		api.While:      (*writer).while,
		api.For:        (*writer).loop,
		api.Forall:     (*writer).loop,
		api.Coforall:   (*writer).loop,
		api.Begin:      (*writer).begin,
		api.Cobegin:    (*writer).cobegin,
		api.Sync:       (*writer).sync,
		api.On:         (*writer).on,
		api.Return:     (*writer).returns,
		api.Yield:      (*writer).yield,
		api.Do:         (*writer).do,
		api.Write:      (*writer).write,
		api.Assert:     (*writer).assert,
		api.BlockOf:    (*writer).block,
		api.Intent:     (*writer).intent,
	}
}

// put writes a text; a text that becomes too large ends all.
func (w *writer) put(text string) {
	if len(w.text)+len(text) > api.MaxSource {
		panic(tooLarge{})
	}
	w.text = append(w.text, text...)
}

// say writes texts as they are, and nodes by their rules.
func (w *writer) say(parts ...any) {
	for _, p := range parts {
		switch x := p.(type) {
		case string:
			w.put(x)
		case api.Node:
			w.rules[x.Op](w, x)
		}
	}
}

// list writes nodes with commas between.
func (w *writer) list(l []api.Node) {
	for i, n := range l {
		if i > 0 {
			w.put(", ")
		}
		w.say(n)
	}
}

// line writes one line of those in the open blocks.
func (w *writer) line(parts ...any) {
	w.put(strings.Repeat("  ", w.open))
	w.say(parts...)
	w.put("\n")
}

// braces writes lines in a block of their own.
func (w *writer) braces(lines func()) {
	w.put("{\n")
	w.open++
	lines()
	w.open--
	w.put(strings.Repeat("  ", w.open) + "}")
}

func (w *writer) statements(l []api.Node) {
	w.braces(func() {
		for _, n := range l {
			w.line(n)
		}
	})
}

func (w *writer) module(m Module) {
	w.say("module ", m.Name, " ")
	w.braces(func() {
		for _, u := range m.Uses {
			w.line(useText(u))
		}
		for _, g := range m.Globals {
			w.line(privateText(g.Private), g.Var)
		}
		for _, p := range m.Procs {
			w.procedure(p)
		}
	})
	w.put("\n")
}

func useText(u Use) string {
	names := strings.Join(u.Names, ", ")
	switch u.Kind {
	case Only:
		return "use " + u.Module + " only " + names + ";"
	case Except:
		return "use " + u.Module + " except " + names + ";"
	case Import:
		return "import " + u.Module + " as " + u.As + ";"
	}
	return "use " + u.Module + ";"
}

func privateText(private bool) string {
	if private {
		return "private "
	}
	return ""
}

func (w *writer) procedure(p api.Proc) {
	word := "proc "
	if p.Iter {
		word = "iter "
	}
	w.say(strings.Repeat("  ", w.open), privateText(p.Private), word, p.Name, "(")
	for i, f := range p.Formals {
		if i > 0 {
			w.put(", ")
		}
		w.formal(f)
	}
	w.put(")")
	if !Same(p.Result, api.Node{Op: api.Type, Name: "void"}) {
		w.say(": ", p.Result)
	}
	for _, n := range p.Where {
		w.say(" where ", n)
	}
	w.put(" ")
	w.statements(p.Body)
	w.put("\n")
}

func (w *writer) formal(f api.Formal) {
	if f.Intent == "type" {
		w.say("type ", f.Name)
		return
	}
	if f.Intent != "" {
		w.say(f.Intent, " ")
	}
	w.say(f.Name, ": ", f.Type)
}

// operand writes an operand where the grammar asks for a level.
func (w *writer) operand(n api.Node, level int) {
	if levelOf(n) < level {
		w.say("(", n, ")")
	} else {
		w.say(n)
	}
}

// beginning writes what a postfix begins with. There a domain has brackets, too: at the beginning of a statement it would be a block.
func (w *writer) beginning(n api.Node) {
	if n.Op == api.DomainOf {
		w.say("(", n, ")")
	} else {
		w.operand(n, postfixLevel)
	}
}

// levelOf returns the level of an expression: 0 for what is no operand without brackets.
func levelOf(n api.Node) int {
	switch n.Op {
	case api.Cond, api.Reduce:
		return 0
	case api.Binary:
		has := func(operators []string) bool { return slices.Contains(operators, n.Name) }
		all := levels()
		return slices.IndexFunc(all[:], has)
	case api.By, api.Count, api.Mapped:
		return byLevel
	case api.RangeOf:
		return rangeLevel
	case api.Unary:
		return prefixLevel
	case api.Int:
		if n.Num < 0 {
			return prefixLevel
		}
	}
	return postfixLevel
}

func (w *writer) number(n api.Node) { w.put(strconv.Itoa(n.Num)) }

func (w *writer) truth(n api.Node) { w.put(strconv.FormatBool(n.Num == 1)) }

func (w *writer) quoted(n api.Node) {
	text, _ := token.Write(token.Token{Kind: token.String, Text: n.Name})
	w.put(text)
}

func (w *writer) name(n api.Node) { w.put(n.Name) }

func (w *writer) prefix(n api.Node) {
	w.put(n.Name)
	operand := n.Kids[0]
	if n.Name == "-" && operand.Op == api.Int && operand.Num >= 0 {
		w.say("(", operand, ")")
	} else {
		w.operand(operand, prefixLevel)
	}
}

func (w *writer) binary(n api.Node) {
	level := levelOf(n)
	w.operand(n.Kids[0], level)
	w.say(" ", n.Name, " ")
	w.operand(n.Kids[1], level+1)
}

func (w *writer) rangeOf(n api.Node) {
	w.operand(n.Kids[0], sumLevel)
	w.put("..")
	w.operand(n.Kids[1], sumLevel)
}

// changed writes a range by a stride, or the first numbers of one.
func (w *writer) changed(n api.Node) {
	w.operand(n.Kids[0], byLevel)
	if n.Op == api.By {
		w.put(" by ")
	} else {
		w.put(" # ")
	}
	w.operand(n.Kids[1], sumLevel)
}

func (w *writer) domain(n api.Node) {
	w.put("{")
	w.list(n.Kids)
	w.put("}")
}

func (w *writer) mapped(n api.Node) {
	w.operand(n.Kids[0], byLevel)
	w.say(" dmapped ", n.Name)
	for _, size := range n.Kids[1:] {
		w.say("(", size, ")")
	}
}

func (w *writer) index(n api.Node) {
	w.beginning(n.Kids[0])
	w.put("[")
	w.list(n.Kids[1:])
	w.put("]")
}

func (w *writer) call(n api.Node) {
	w.say(n.Name, "(")
	w.list(n.Kids)
	w.put(")")
}

func (w *writer) field(n api.Node) {
	w.beginning(n.Kids[0])
	w.say(".", n.Name)
}

func (w *writer) method(n api.Node) {
	w.beginning(n.Kids[0])
	w.say(".", n.Name, "(")
	w.list(n.Kids[1:])
	w.put(")")
}

func (w *writer) here(api.Node) { w.put("here") }

func (w *writer) numLocales(api.Node) { w.put("numLocales") }

func (w *writer) reduce(n api.Node) { w.say(n.Name, " reduce ", n.Kids[0]) }

func (w *writer) conditional(n api.Node) {
	w.say("if ", n.Kids[0], " then ", n.Kids[1], " else ", n.Kids[2])
}
