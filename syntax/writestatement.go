package syntax

import "raddle/api"

func (w *writer) typeName(n api.Node) {
	switch n.Name {
	case "domain1", "domain2", "array1", "array2":
		word, dimensions := n.Name[:len(n.Name)-1], n.Name[len(n.Name)-1:]
		w.say(word, "(", dimensions, ")")
	default:
		w.put(n.Name)
	}
}

func (w *writer) array(n api.Node) { w.say("[", n.Kids[0], "] int") }

func (w *writer) variable(n api.Node) {
	switch {
	case n.Num&api.IsConst != 0:
		w.put("const ")
	case n.Num&api.IsParam != 0:
		w.put("param ")
	default:
		w.put("var ")
	}
	w.put(n.Name)
	kids := n.Kids
	if n.Num&api.HasType != 0 {
		w.say(": ", kids[0])
		kids = kids[1:]
	}
	if n.Num&api.HasInit != 0 {
		w.say(" = ", kids[0])
	}
	w.put(";")
}

func (w *writer) assign(n api.Node) { w.say(n.Kids[0], " ", n.Name, " ", n.Kids[1], ";") }

func (w *writer) choice(n api.Node) {
	w.say("if ", n.Kids[0], " ", n.Kids[1])
	for _, otherwise := range n.Kids[2:] {
		w.say(" else ", otherwise)
	}
}

func (w *writer) while(n api.Node) { w.say("while ", n.Kids[0], " ", n.Kids[1]) }

func (w *writer) loop(n api.Node) {
	word := "for "
	switch n.Op {
	case api.Forall:
		word = "forall "
	case api.Coforall:
		word = "coforall "
	}
	names := n.Kids[0].Name
	if n.Num == 2 {
		names = "(" + names + ", " + n.Kids[1].Name + ")"
	}
	over, block, intents := n.Kids[n.Num], n.Kids[n.Num+1], n.Kids[n.Num+2:]
	w.say(word, names, " in ", over)
	if len(intents) > 0 {
		w.put(" with (")
		w.list(intents)
		w.put(")")
	}
	w.say(" ", block)
}

func (w *writer) intent(n api.Node) { w.say(n.Name, " reduce ", n.Kids[0]) }

func (w *writer) begin(n api.Node) { w.say("begin ", n.Kids[0]) }

func (w *writer) cobegin(n api.Node) {
	w.put("cobegin ")
	w.statements(n.Kids)
}

func (w *writer) sync(n api.Node) { w.say("sync ", n.Kids[0]) }

func (w *writer) on(n api.Node) { w.say("on ", n.Kids[0], " ", n.Kids[1]) }

func (w *writer) returns(n api.Node) {
	w.put("return")
	for _, value := range n.Kids {
		w.say(" ", value)
	}
	w.put(";")
}

func (w *writer) yield(n api.Node) { w.say("yield ", n.Kids[0], ";") }

func (w *writer) do(n api.Node) { w.say(n.Kids[0], ";") }

func (w *writer) write(n api.Node) {
	w.put("write(")
	w.list(n.Kids)
	w.put(");")
}

func (w *writer) assert(n api.Node) { w.say("assert(", n.Kids[0], ");") }

func (w *writer) block(n api.Node) { w.statements(n.Kids) }
