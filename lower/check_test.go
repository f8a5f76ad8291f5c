package lower_test

import (
	"math"
	"slices"
	"strconv"
	"strings"
	"testing"

	"raddle/api"
	"raddle/lower"
)

// row is what the chapter says of an Op: its word, what stands in A, B, C and D, its Texts, and how long its List is.
type row struct {
	op     int
	word   string
	fields string // w and r: a register that is written, and read; W and R: or none; n: a number; g b i d k: a global, a body, an instruction, a dimension, a kind; 0: nothing
	texts  string
	list   string
}

func rows() []row {
	const sync, atomic = "readFE readFF readXX isFull reset writeEF writeFF writeXF", "read write add fetchAdd exchange compareAndSwap"
	return []row{
		{api.OpSet, "set", "wn00", "", "0"},
		{api.OpCopy, "copy", "wr00", "", "0"},
		{api.OpUnary, "unary", "wr00", "- !", "0"},
		{api.OpBinary, "binary", "wrr0", "+ - * / % == != < <= > >= min max && ||", "0"},
		{api.OpGet, "get", "wg00", "", "0"},
		{api.OpPut, "put", "gr00", "", "0"},
		{api.OpRange, "range", "wrr0", "", "0"},
		{api.OpBy, "by", "wrr0", "", "0"},
		{api.OpCount, "count", "wrr0", "", "0"},
		{api.OpDomain, "domain", "w000", "", "1 2"},
		{api.OpMap, "map", "wrkR", "", "0"},
		{api.OpArray, "array", "wr00", "", "0"},
		{api.OpCell, "cell", "w000", "", "0"},
		{api.OpAtomic, "atomic", "w000", "", "0"},
		{api.OpField, "field", "wr00", "size low high stride domain", "0"},
		{api.OpNth, "nth", "wrdr", "", "0"},
		{api.OpLoad, "load", "wr00", "", "1 2"},
		{api.OpStore, "store", "rr00", "", "1 2"},
		{api.OpJump, "jump", "00i0", "", "0"},
		{api.OpIf, "if", "r0i0", "", "0"},
		{api.OpCall, "call", "Wb00", "", "arguments"},
		{api.OpReturn, "return", "R000", "", "0"},
		{api.OpHere, "here", "w000", "", "0"},
		{api.OpLocales, "locales", "w000", "", "0"},
		{api.OpGo, "go", "r000", "", "0"},
		{api.OpCounter, "counter", "w000", "", "0"},
		{api.OpSpawn, "spawn", "Rb00", "", "arguments"},
		{api.OpWait, "wait", "r000", "", "0"},
		{api.OpScope, "scope", "w000", "", "0"},
		{api.OpUnscope, "unscope", "0000", "", "0"},
		{api.OpPieces, "pieces", "wr00", "", "0"},
		{api.OpPiece, "piece", "wrdr", "", "0"},
		{api.OpInPiece, "inpiece", "wrdr", "", "1"},
		{api.OpOnCell, "oncell", "WrR0", sync, "0"},
		{api.OpOnAtom, "onatom", "Wr00", atomic, "operands"},
		{api.OpWrite, "write", "0000", "", "zeros"},
		{api.OpAssert, "assert", "r000", "", "0"},
	}
}

// The world in which instructions are looked at: a body with so many registers, globals and bodies; the body 1 has arguments.
const (
	registers = 5
	globals   = 2
	bodies    = 3
	length    = 4
)

// codeWith returns code that is right but for an instruction.
func codeWith(i api.Ins) api.Code {
	leave := api.Ins{Op: api.OpReturn, A: -1}
	set := api.Ins{Op: api.OpSet, A: registers - 1, B: 7}
	return api.Code{Globals: globals, Bodies: []api.Body{
		{Name: "_start", Registers: registers, Code: []api.Ins{set, i, {Op: api.OpJump, C: 3}, leave}},
		{Name: "f", Registers: 4, Arguments: 3, Code: []api.Ins{leave}},
		{Name: "f_1", Registers: 0, Code: []api.Ins{{Op: api.OpJump}}},
	}}
}

// permitted reports whether the chapter lets a field have a value.
func permitted(letter byte, v int) bool {
	below := map[byte]int{'w': registers, 'r': registers, 'W': registers, 'R': registers, 'g': globals, 'b': bodies, 'i': length, 'd': 2, 'k': 5, '0': 1}
	switch letter {
	case 'n':
		return true
	case 'W', 'R':
		return v >= -1 && v < registers
	case 'k':
		return v >= 1 && v < 5
	}
	return v >= 0 && v < below[letter]
}

// rightLength reports whether a List may have so many elements.
func rightLength(r row, i api.Ins) bool {
	n := strconv.Itoa(len(i.List))
	switch r.list {
	case "arguments":
		return n == strconv.Itoa(map[int]int{1: 3}[i.B])
	case "operands":
		want, ok := map[string]string{"read": "0", "compareAndSwap": "2"}[i.Text]
		return ok && n == want || !ok && n == "1"
	case "zeros":
		return len(i.List) == strings.Count(i.Text, "\x00")
	}
	return slices.Contains(strings.Fields(r.list), n)
}

// sound returns a right instruction of a row.
func sound(r row) api.Ins {
	i := api.Ins{Op: r.op}
	at := []*int{&i.A, &i.B, &i.C, &i.D}
	for n, letter := range []byte(r.fields) {
		for !permitted(letter, *at[n]) {
			*at[n]++
		}
	}
	if r.texts != "" {
		i.Text = strings.Fields(r.texts)[0]
	}
	for !rightLength(r, i) {
		i.List = append(i.List, len(i.List))
	}
	return i
}

func expect(t *testing.T, i api.Ins, right bool) {
	t.Helper()
	want := lower.ErrCode
	if right {
		want = api.OK
	}
	if e := lower.Check(codeWith(i)); e != want {
		t.Errorf("Check with %v: %v, want %v", i, e, want)
	}
}

// TestCheckFields asks for each field of each Op, with what it may have and what not.
func TestCheckFields(t *testing.T) {
	if len(rows()) != api.OpAssert {
		t.Fatalf("%d rows", len(rows()))
	}
	for _, r := range rows() {
		expect(t, sound(r), true)
		for n, letter := range []byte(r.fields) {
			for _, v := range []int{math.MinInt, -2, -1, 0, 1, 2, 3, 4, 5, 6, math.MaxInt} {
				i := sound(r)
				*[]*int{&i.A, &i.B, &i.C, &i.D}[n] = v
				if letter == 'b' && v >= 0 && v < bodies {
					i.List = []int{0, 0, 0}[:map[int]int{1: 3}[v]]
				}
				expect(t, i, permitted(letter, v))
			}
		}
	}
}

// TestCheckTexts asks for each Text that some Op takes, for all of them.
func TestCheckTexts(t *testing.T) {
	texts := []string{"", " ", "- !", "size low", "Size", "x", "readFE ", "\x00"}
	for _, r := range rows() {
		texts = append(texts, strings.Fields(r.texts)...)
	}
	for _, r := range rows() {
		if r.op == api.OpWrite {
			continue
		}
		for _, text := range texts {
			i := sound(r)
			i.Text, i.List = text, nil
			right := text == ""
			if r.texts != "" {
				right = slices.Contains(strings.Fields(r.texts), text)
			}
			for n := 0; n < 4 && !rightLength(r, i); n++ {
				i.List = append(i.List, n)
			}
			expect(t, i, right)
		}
	}
}

// TestCheckLists asks for Lists of all lengths, and with registers that do not exist.
func TestCheckLists(t *testing.T) {
	for _, r := range rows() {
		for n := range 6 {
			i := sound(r)
			i.List = slices.Repeat([]int{registers - 1}, n)
			expect(t, i, rightLength(r, i))
			for _, v := range []int{-2, -1, registers, math.MaxInt, math.MinInt} {
				for at := range i.List {
					wrong := i
					wrong.List = slices.Clone(i.List)
					wrong.List[at] = v
					expect(t, wrong, false)
				}
			}
		}
	}
	takes := map[string]int{"read": 0, "write": 1, "add": 1, "fetchAdd": 1, "exchange": 1, "compareAndSwap": 2}
	for operation, want := range takes {
		for n := range 4 {
			expect(t, api.Ins{Op: api.OpOnAtom, A: -1, Text: operation, List: slices.Repeat([]int{1}, n)}, n == want)
		}
	}
}

// TestCheckWrite asks for the Texts of OpWrite.
func TestCheckWrite(t *testing.T) {
	for c := range 256 {
		i := api.Ins{Op: api.OpWrite, Text: "a" + string([]byte{byte(c)}) + "b"}
		if c == 0 {
			i.List = []int{1}
		}
		expect(t, i, c == 0 || c >= 32 && c <= 126)
	}
	expect(t, api.Ins{Op: api.OpWrite}, true)
	expect(t, api.Ins{Op: api.OpWrite, Text: strings.Repeat("\x00", 40), List: make([]int, 40)}, true)
	expect(t, api.Ins{Op: api.OpWrite, Text: "\x00é", List: []int{0}}, false)
}

func TestCheckOps(t *testing.T) {
	for _, op := range []int{math.MinInt, -1, 0, api.OpAssert + 1, 100, math.MaxInt} {
		expect(t, api.Ins{Op: op}, false)
		if reads, writes := lower.Uses(api.Ins{Op: op, A: 1, B: 2, C: 3, D: 4, List: []int{5}}); len(reads) > 0 || writes != -1 {
			t.Errorf("Uses of the Op %d: %v, %d", op, reads, writes)
		}
	}
}

// TestCheckBodies asks for what stands around instructions.
func TestCheckBodies(t *testing.T) {
	right := func(change func(*api.Code)) api.Errno {
		c := codeWith(api.Ins{Op: api.OpUnscope})
		change(&c)
		return lower.Check(c)
	}
	long := strings.Repeat("n", 60)
	for i, c := range []struct {
		change func(*api.Code)
		want   api.Errno
	}{
		{func(c *api.Code) {}, api.OK},
		{func(c *api.Code) { c.Bodies[1].Name = "_start" }, api.OK},
		{func(c *api.Code) { c.Bodies[1].Name = long }, api.OK},
		{func(c *api.Code) { c.Bodies[1].Name = long + "n" }, lower.ErrCode},
		{func(c *api.Code) { c.Bodies[1].Name = "" }, lower.ErrCode},
		{func(c *api.Code) { c.Bodies[1].Name = "1a" }, lower.ErrCode},
		{func(c *api.Code) { c.Bodies[1].Name = "Aa_zZ09" }, api.OK},
		{func(c *api.Code) { c.Bodies[1].Name = "a.b" }, lower.ErrCode},
		{func(c *api.Code) { c.Bodies[1].Name = "é" }, lower.ErrCode},
		{func(c *api.Code) { c.Bodies[2].Name = "a b" }, lower.ErrCode},
		{func(c *api.Code) { c.Bodies[1].Arguments = -1 }, lower.ErrCode},
		{func(c *api.Code) { c.Bodies[1].Arguments = 4 }, api.OK},
		{func(c *api.Code) { c.Bodies[1].Arguments = 5 }, lower.ErrCode},
		{func(c *api.Code) { c.Bodies[2].Registers = -1 }, lower.ErrCode},
		{func(c *api.Code) { c.Bodies[0].Arguments = 1 }, lower.ErrCode},
		{func(c *api.Code) { c.Bodies[2].Code = nil }, lower.ErrCode},
		{func(c *api.Code) { c.Bodies[2].Code[0] = api.Ins{Op: api.OpUnscope} }, lower.ErrCode},
		{func(c *api.Code) { c.Bodies[2].Code[0] = api.Ins{Op: api.OpIf} }, lower.ErrCode},
		{func(c *api.Code) { c.Bodies[0].Code[3] = api.Ins{Op: api.OpSet} }, lower.ErrCode},
		{func(c *api.Code) { c.Bodies[2].Code[0].C = 1 }, lower.ErrCode},
		// the limits, which come first
		{func(c *api.Code) { c.Bodies = nil }, api.ErrCount},
		{func(c *api.Code) { c.Globals = 1000 }, api.OK},
		{func(c *api.Code) { c.Globals = 1001 }, api.ErrCount},
		{func(c *api.Code) { c.Globals = -1 }, api.ErrCount},
		{func(c *api.Code) { c.Globals = 0 }, api.OK},
		{func(c *api.Code) { c.Bodies[1].Registers = 5000 }, api.OK},
		{func(c *api.Code) { c.Bodies[1].Registers = 5001 }, api.ErrCount},
		{func(c *api.Code) { c.Bodies[0].Name, c.Bodies[2].Registers = "", math.MaxInt }, api.ErrCount},
		{func(c *api.Code) { c.Bodies = slices.Repeat(c.Bodies[2:], 800) }, api.OK},
		{func(c *api.Code) { c.Bodies = slices.Repeat(c.Bodies[2:], 801) }, api.ErrCount},
		{func(c *api.Code) { c.Bodies[2].Code = slices.Repeat(c.Bodies[2].Code, 20000-5) }, api.OK},
		{func(c *api.Code) { c.Bodies[2].Code = slices.Repeat(c.Bodies[2].Code, 20000-4) }, api.ErrCount},
		{func(c *api.Code) { c.Bodies[0].Code[0].Op = 0; c.Globals = 1001 }, api.ErrCount},
	} {
		if e := right(c.change); e != c.want {
			t.Errorf("%d: Check = %v, want %v", i, e, c.want)
		}
	}
	if e := lower.Check(api.Code{}); e != api.ErrCount {
		t.Errorf("Check of nothing = %v", e)
	}
}

// TestUses asks for the registers of each Op.
func TestUses(t *testing.T) {
	want := map[string]string{
		"set": ";1", "copy": "2;1", "unary": "2;1", "binary": "2 3;1", "get": ";1", "put": "2;-1", "range": "2 3;1", "by": "2 3;1", "count": "2 3;1",
		"domain": "5 6;1", "map": "2 4;1", "array": "2;1", "cell": ";1", "atomic": ";1", "field": "2;1", "nth": "2 4;1", "load": "2 5 6;1", "store": "1 2 5 6;-1",
		"jump": ";-1", "if": "1;-1", "call": "5 6;1", "return": "1;-1", "here": ";1", "locales": ";1", "go": "1;-1", "counter": ";1", "spawn": "1 5 6;-1", "wait": "1;-1",
		"scope": ";1", "unscope": ";-1", "pieces": "2;1", "piece": "2 4;1", "inpiece": "2 4 5 6;1", "oncell": "2 3;1", "onatom": "2 5 6;1", "write": "5 6;-1", "assert": "1;-1",
	}
	told := func(i api.Ins) string {
		reads, writes := lower.Uses(i)
		return strings.Trim(strings.ReplaceAll(strings.Join(texts(reads), " "), "  ", " "), " ") + ";" + strconv.Itoa(writes)
	}
	for _, r := range rows() {
		i := api.Ins{Op: r.op, A: 1, B: 2, C: 3, D: 4, List: []int{5, 6}}
		if got := told(i); got != want[r.word] {
			t.Errorf("Uses of %s: %s, want %s", r.word, got, want[r.word])
		}
	}
	for i, c := range []struct {
		i    api.Ins
		want string
	}{
		{api.Ins{Op: api.OpReturn, A: -1}, ";-1"},
		{api.Ins{Op: api.OpSpawn, A: -1, B: 7, List: []int{3, 3}}, "3 3;-1"},
		{api.Ins{Op: api.OpCall, A: -1, B: 7, List: []int{3}}, "3;-1"},
		{api.Ins{Op: api.OpOnCell, A: -1, B: 7, C: -1}, "7;-1"},
		{api.Ins{Op: api.OpOnCell, A: 8, B: 7, C: 6}, "7 6;8"},
		{api.Ins{Op: api.OpOnAtom, A: -1, B: 7, List: []int{2, 1}}, "7 2 1;-1"},
		{api.Ins{Op: api.OpMap, A: 8, B: 7, C: 3, D: -1}, "7;8"},
		{api.Ins{Op: api.OpStore, A: 2, B: 2, List: []int{2}}, "2 2 2;-1"},
		{api.Ins{Op: api.OpCopy, A: -1, B: -1}, ";-1"},
		{api.Ins{Op: api.OpWrite, List: []int{-1, 4, -1, -7}}, "4 -7;-1"},
		{api.Ins{Op: api.OpCopy, A: -9, B: 99999}, "99999;-9"},
	} {
		list := slices.Clone(c.i.List)
		if got := told(c.i); got != c.want {
			t.Errorf("%d: Uses of %v: %s, want %s", i, c.i, got, c.want)
		}
		if !slices.Equal(list, c.i.List) {
			t.Errorf("%d: the List was changed: %v", i, c.i.List)
		}
	}
	i := api.Ins{Op: api.OpWrite, List: []int{1, 2}}
	reads, _ := lower.Uses(i)
	reads[0] = 9
	if i.List[0] != 1 {
		t.Errorf("the List is shared")
	}
}

func texts(l []int) []string {
	var all []string
	for _, n := range l {
		all = append(all, strconv.Itoa(n))
	}
	return all
}
