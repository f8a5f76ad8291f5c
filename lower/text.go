package lower

import (
	"strconv"
	"strings"

	"raddle/api"
)

// textOf returns the text of code that is right, and leaves, if it is too long.
func textOf(c api.Code) string {
	w := &writer{quoting: strings.NewReplacer("\x00", `\0`, `\`, `\\`, `"`, `\"`)}
	w.line("globals", c.Globals)
	for _, b := range c.Bodies {
		w.line("body "+b.Name, b.Registers, b.Arguments)
		for _, i := range b.Code {
			w.instruction(i)
		}
	}
	return string(w.text)
}

// writer has the text of what was written so far; quoting replaces what does not stand as it is between quotes.
type writer struct {
	text    []byte
	quoting *strings.Replacer
}

func (w *writer) line(head string, l ...int) {
	w.text = append(w.text, head...)
	w.numbers(l)
	w.end()
}

func (w *writer) instruction(i api.Ins) {
	w.text = append(w.text, "  "+formatOf(i.Op).word...)
	w.numbers([]int{i.A, i.B, i.C, i.D, len(i.List)})
	w.numbers(i.List)
	w.text = append(w.text, " \""+w.quoting.Replace(i.Text)+"\""...)
	w.end()
}

func (w *writer) numbers(l []int) {
	for _, n := range l {
		w.text = strconv.AppendInt(append(w.text, ' '), int64(n), 10)
	}
}

func (w *writer) end() {
	w.text = append(w.text, '\n')
	limit(len(w.text), maxText)
}

// parsed returns the code that the lines of a text tell, or the number of the first line that is none, 0 without one.
func parsed(text string) (api.Code, int) {
	r := newReader()
	at := 0
lines:
	for rest := text; rest != "" || at == 0; {
		at++
		line, behind, ended := strings.Cut(rest, "\n")
		rest = behind
		head, fields, _ := strings.Cut(line, " ")
		switch {
		case !ended:
		case at == 1:
			if head == "globals" && r.globals(fields) {
				continue lines
			}
		case head == "body":
			if r.body(fields) {
				continue lines
			}
		case len(r.code.Bodies) > 0:
			if r.instruction(line) {
				continue lines
			}
		}
		return api.Code{}, at
	}
	return r.code, 0
}

// reader has the code that was read so far, and the Ops by their words.
type reader struct {
	code api.Code
	ops  map[string]int
}

func newReader() *reader {
	r := &reader{ops: map[string]int{}}
	for op := api.OpSet; op <= api.OpAssert; op++ {
		r.ops[formatOf(op).word] = op
	}
	return r
}

func (r *reader) globals(fields string) (ok bool) {
	r.code.Globals, ok = numberOf(fields)
	return ok
}

func (r *reader) body(fields string) bool {
	l := strings.Split(fields, " ")
	if len(l) != 3 {
		return false
	}
	registers, ok := numberOf(l[1])
	arguments, also := numberOf(l[2])
	r.code.Bodies = append(r.code.Bodies, api.Body{Name: l[0], Registers: registers, Arguments: arguments})
	return ok && also
}

func (r *reader) instruction(line string) bool {
	fields, indented := strings.CutPrefix(line, "  ")
	word, fields, _ := strings.Cut(fields, " ")
	op, known := r.ops[word]
	head, fields, ok := numbersOf(fields, 5)
	if !indented || !known || !ok {
		return false
	}
	list, fields, ok := numbersOf(fields, head[4])
	text, quoted := unquoted(fields)
	if !ok || !quoted {
		return false
	}
	b := &r.code.Bodies[len(r.code.Bodies)-1]
	b.Code = append(b.Code, api.Ins{Op: op, A: head[0], B: head[1], C: head[2], D: head[3], Text: text, List: list})
	return true
}

// numbersOf returns so many numbers, each with a space behind it, and what stands behind them.
func numbersOf(fields string, count int) (l []int, behind string, ok bool) {
	for range count {
		field, rest, spaced := strings.Cut(fields, " ")
		n, ok := numberOf(field)
		if !spaced || !ok {
			return nil, "", false
		}
		l, fields = append(l, n), rest
	}
	return l, fields, count >= 0
}

// numberOf reads also numbers whose digits are others than in texts of code, such as 01 and -0: the whole text tells. Atoi alone would take a plus sign, which is no digit.
func numberOf(field string) (int, bool) {
	n, e := strconv.Atoi(field)
	return n, e == nil && field[0] != '+'
}

// unquoted returns what stands between quotes.
func unquoted(field string) (string, bool) {
	inner, begins := strings.CutPrefix(field, `"`)
	inner, ends := strings.CutSuffix(inner, `"`)
	if !begins || !ends {
		return "", false
	}
	var text []byte
	for i := 0; i < len(inner); i++ {
		c := inner[i]
		if c == '"' {
			return "", false
		}
		if c == '\\' {
			i++
			switch {
			case i < len(inner) && inner[i] == '0':
				c = 0
			case i < len(inner) && (inner[i] == '\\' || inner[i] == '"'):
				c = inner[i]
			default:
				return "", false
			}
		}
		text = append(text, c)
	}
	return string(text), true
}
