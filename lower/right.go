package lower

import (
	"strings"

	"raddle/api"
)

// fits reports whether code has no more of anything than it may have.
func fits(c api.Code) bool {
	if len(c.Bodies) == 0 || len(c.Bodies) > maxBodies || c.Globals < 0 || c.Globals > maxGlobals {
		return false
	}
	instructions := 0
	for _, b := range c.Bodies {
		instructions += len(b.Code)
		if b.Registers > maxRegisters {
			return false
		}
	}
	return instructions <= api.MaxCode
}

// checker looks at code that fits.
type checker struct{ code api.Code }

// body reports whether the body with an index is right.
func (k checker) body(at int) bool {
	b := &k.code.Bodies[at]
	switch {
	case !isBodyName(b.Name):
		return false
	case b.Arguments < 0 || b.Arguments > b.Registers || at == 0 && b.Arguments > 0:
		return false
	case len(b.Code) == 0:
		return false
	}
	last := b.Code[len(b.Code)-1].Op
	if last != api.OpReturn && last != api.OpJump {
		return false
	}
	for i := range b.Code {
		if !k.instruction(b, &b.Code[i]) {
			return false
		}
	}
	return true
}

func (k checker) instruction(b *api.Body, i *api.Ins) bool {
	f := formatOf(i.Op)
	if f.word == "" {
		return false
	}
	for n, v := range fields(*i) {
		if !k.field(b, f.fields[n], v) {
			return false
		}
	}
	for _, v := range i.List {
		if !k.field(b, isRead, v) {
			return false
		}
	}
	return isTextOf(f, i) && k.isLong(f, i)
}

// field reports whether a field of an instruction of a body has what it may have.
func (k checker) field(b *api.Body, letter byte, v int) bool {
	below := func(end int) bool { return v >= 0 && v < end }
	switch letter {
	case isWritten, isRead:
		return below(b.Registers)
	case mayBeWritten, mayBeRead:
		return v == none || below(b.Registers)
	case anyNumber:
		return true
	case aGlobal:
		return below(k.code.Globals)
	case aBody:
		return below(len(k.code.Bodies))
	case anInstruction:
		return below(len(b.Code))
	case aDimension:
		return below(2)
	case aMapKind:
		return v >= api.Block && v <= api.Hashed
	}
	return v == 0
}

// isTextOf reports whether an instruction has a Text that its Op takes.
func isTextOf(f format, i *api.Ins) bool {
	switch {
	case i.Op == api.OpWrite:
		return isLine(i.Text)
	case f.texts == "":
		return i.Text == ""
	}
	return has(f.texts, i.Text)
}

// isLong reports whether the List of an instruction has as many elements as it must have.
func (k checker) isLong(f format, i *api.Ins) bool {
	n := len(i.List)
	switch f.list {
	case oneElement:
		return n == 1
	case indices:
		return n == 1 || n == 2
	case arguments:
		return n == k.code.Bodies[i.B].Arguments
	case operands:
		return n == operandsOf(i.Text)
	case placeholders:
		return n == strings.Count(i.Text, "\x00")
	}
	return n == 0
}

// operandsOf returns how many values an operation of an atomic variable takes.
func operandsOf(operation string) int {
	switch operation {
	case "read":
		return 0
	case "compareAndSwap":
		return 2
	}
	return 1
}

// has reports whether a word is one of some, which have spaces between.
func has(words, word string) bool {
	for words != "" {
		first, behind, _ := strings.Cut(words, " ")
		if first == word {
			return true
		}
		words = behind
	}
	return false
}

func isLine(text string) bool {
	for _, c := range []byte(text) {
		if c != 0 && (c < 32 || c > 126) {
			return false
		}
	}
	return true
}

func isBodyName(s string) bool {
	for i, c := range []byte(s) {
		letter := c == '_' || c >= 'a' && c <= 'z' || c >= 'A' && c <= 'Z'
		if !letter && (i == 0 || c < '0' || c > '9') {
			return false
		}
	}
	return s != "" && len(s) <= maxBodyName
}
