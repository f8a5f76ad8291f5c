package lower_test

import (
	"math"
	"math/rand"
	"reflect"
	"slices"
	"strings"
	"testing"

	"raddle/api"
	"raddle/lower"
)

// TestText asks for the text of each Op, and of numbers and bytes of all kinds.
func TestText(t *testing.T) {
	c := api.Code{Globals: 2, Bodies: []api.Body{
		{Name: "_start", Registers: 3, Code: []api.Ins{
			{Op: api.OpSet, A: 1, B: -7},
			{Op: api.OpSet, B: math.MinInt},
			{Op: api.OpBinary, A: 2, B: 0, C: 1, Text: "&&"},
			{Op: api.OpWrite, Text: "x=\x00, \"\\\x00\\0", List: []int{2, 0}},
			{Op: api.OpCall, A: -1, B: 1, List: []int{0, 1}},
			{Op: api.OpMap, A: 2, B: 1, C: 3, D: -1},
			{Op: api.OpReturn, A: -1}}},
		{Name: "f", Registers: 20, Arguments: 2, Code: []api.Ins{
			{Op: api.OpInPiece, A: 10, B: 11, C: 1, D: 12, List: []int{13}},
			{Op: api.OpJump}}},
	}}
	want := strings.Join([]string{
		`globals 2`,
		`body _start 3 0`,
		`  set 1 -7 0 0 0 ""`,
		`  set 0 -9223372036854775808 0 0 0 ""`,
		`  binary 2 0 1 0 0 "&&"`,
		`  write 0 0 0 0 2 2 0 "x=\0, \"\\\0\\0"`,
		`  call -1 1 0 0 2 0 1 ""`,
		`  map 2 1 3 -1 0 ""`,
		`  return -1 0 0 0 0 ""`,
		`body f 20 2`,
		`  inpiece 10 11 1 12 1 13 ""`,
		`  jump 0 0 0 0 0 ""`,
		``}, "\n")
	if s, e := lower.Text(c); s != want || e != api.OK {
		t.Errorf("Text = %v\n%s\nwant\n%s", e, s, want)
	}
	if got, at, e := lower.Read(want); at != 0 || e != api.OK || !reflect.DeepEqual(got, c) {
		t.Errorf("Read = %d, %v\n%v\nwant\n%v", at, e, got, c)
	}
	for _, r := range rows() {
		s, e := lower.Text(codeWith(sound(r)))
		if line := strings.Split(s, "\n")[3]; e != api.OK || !strings.HasPrefix(line, "  "+r.word+" ") {
			t.Errorf("Text of %s: %v, %q", r.word, e, line)
		}
	}
}

// random makes code of right instructions.
type random struct{ *rand.Rand }

func (r random) ins() api.Ins {
	row := rows()[r.Intn(len(rows()))]
	i := api.Ins{Op: row.op}
	at := []*int{&i.A, &i.B, &i.C, &i.D}
	for n, letter := range []byte(row.fields) {
		*at[n] = r.Intn(7) - 1
		for !permitted(letter, *at[n]) {
			*at[n] = r.Intn(7) - 1
		}
		if letter == 'n' && r.Intn(3) == 0 {
			*at[n] = int(r.Uint64())
		}
	}
	if row.texts != "" {
		l := strings.Fields(row.texts)
		i.Text = l[r.Intn(len(l))]
	}
	if row.op == api.OpWrite {
		for range r.Intn(6) {
			i.Text += []string{"\x00", "\\", "\"", "0", " ", "~", "\\0", "a b"}[r.Intn(8)]
		}
	}
	for n := r.Intn(2); n > 0 || !rightLength(row, i); n-- {
		i.List = append(i.List, r.Intn(registers))
		if len(i.List) > 10 {
			i.List = nil
		}
	}
	if !rightLength(row, i) {
		return r.ins()
	}
	return i
}

func (r random) code() api.Code {
	c := codeWith(r.ins())
	for range r.Intn(10) {
		c.Bodies[0].Code = slices.Insert(c.Bodies[0].Code, r.Intn(len(c.Bodies[0].Code)), r.ins())
	}
	c.Globals += r.Intn(3)
	return c
}

// TestBack asks P17.3 of random code.
func TestBack(t *testing.T) {
	r := random{rand.New(rand.NewSource(17))}
	for range 5000 {
		c := r.code()
		s, e := lower.Text(c)
		if e != api.OK {
			t.Fatalf("Text(%v) = %v", c, e)
		}
		got, at, e := lower.Read(s)
		if at != 0 || e != api.OK || !same(got, c) {
			t.Fatalf("Read(%q) = %v, %d, %v, want %v", s, got, at, e, c)
		}
	}
}

// same reports whether codes are equal, where an empty list is none.
func same(a, b api.Code) bool {
	sameBody := func(a, b api.Body) bool {
		return a.Name == b.Name && a.Registers == b.Registers && a.Arguments == b.Arguments && slices.EqualFunc(a.Code, b.Code, sameIns)
	}
	return a.Globals == b.Globals && slices.EqualFunc(a.Bodies, b.Bodies, sameBody)
}

func sameIns(a, b api.Ins) bool {
	list := slices.Equal(a.List, b.List)
	a.List, b.List = nil, nil
	return list && reflect.DeepEqual(a, b)
}

// TestTextErrors asks for code with errors, and for long texts.
func TestTextErrors(t *testing.T) {
	leave := api.Ins{Op: api.OpReturn, A: -1}
	with := func(text int) api.Code {
		return api.Code{Bodies: []api.Body{{Name: "a", Code: []api.Ins{{Op: api.OpWrite, Text: strings.Repeat("t", text)}, leave}}}}
	}
	around := len("globals 0\nbody a 0 0\n  write 0 0 0 0 0 \"\"\n  return -1 0 0 0 0 \"\"\n")
	for i, c := range []struct {
		c    api.Code
		size int
		want api.Errno
	}{
		{with(400000 - around), 400000, api.OK},
		{with(400000 - around + 1), 0, api.ErrLarge},
		{with(2000000), 0, api.ErrLarge},
		{api.Code{}, 0, api.ErrCount},
		{api.Code{Bodies: []api.Body{{Name: "a"}}}, 0, lower.ErrCode},
		{api.Code{Globals: -1, Bodies: with(2000000).Bodies}, 0, api.ErrCount},
	} {
		s, e := lower.Text(c.c)
		if e != c.want || len(s) != c.size {
			t.Errorf("%d: Text = %v with %d bytes, want %v with %d", i, e, len(s), c.want, c.size)
		}
	}
	s, _ := lower.Text(with(400000 - around))
	if c, at, e := lower.Read(s); at != 0 || e != api.OK || !same(c, with(400000-around)) {
		t.Errorf("Read of the longest text: %d, %v", at, e)
	}
	if c, at, e := lower.Read(s + "\n"); at != 0 || e != api.ErrLarge || !same(c, api.Code{}) {
		t.Errorf("Read of a longer text: %d, %v", at, e)
	}
	many := api.Code{Bodies: []api.Body{{Name: "a", Registers: 5000}, {Name: "b", Registers: 5000, Arguments: 5000, Code: []api.Ins{leave}}}}
	list := make([]int, 5000)
	for i := range list {
		list[i] = i
	}
	many.Bodies[0].Code = append(slices.Repeat([]api.Ins{{Op: api.OpCall, B: 1, List: list}}, 10000), leave)
	if s, e := lower.Text(many); e != api.ErrLarge || s != "" {
		t.Errorf("Text of long Lists: %v", e)
	}
}

// TestReadErrors asks for the first line that is wrong.
func TestReadErrors(t *testing.T) {
	const head, leave = "globals 1\nbody a 3 0\n", "  return -1 0 0 0 0 \"\"\n"
	for _, c := range []struct {
		text string
		line int
		want api.Errno
	}{
		{head + leave, 0, api.OK},
		{"", 1, lower.ErrLine},
		{"\n", 1, lower.ErrLine},
		{"globals 1", 1, lower.ErrLine},
		{"globals\n", 1, lower.ErrLine},
		{"globals \n", 1, lower.ErrLine},
		{"globals x\n", 1, lower.ErrLine},
		{"globals 1 \n", 1, lower.ErrLine},
		{"globals  1\n", 1, lower.ErrLine},
		{" globals 1\n", 1, lower.ErrLine},
		{"Globals 1\n", 1, lower.ErrLine},
		{"globals 1 2\n", 1, lower.ErrLine},
		{"globals 1\r\n", 1, lower.ErrLine},
		{"globals 99999999999999999999\n", 1, lower.ErrLine},
		{"globals -\n", 1, lower.ErrLine},
		// a plus sign is no digit, also where the code would have an error
		{"globals +\n", 1, lower.ErrLine},
		{"globals +1\n", 1, lower.ErrLine},
		{"globals +0\nbody a 3 0\n" + leave, 1, lower.ErrLine},
		{"globals +01\nbody a 3 0\n" + leave, 1, lower.ErrLine},
		{"globals ++1\nbody a 3 0\n" + leave, 1, lower.ErrLine},
		{"globals +-1\nbody a 3 0\n" + leave, 1, lower.ErrLine},
		{"globals -+1\nbody a 3 0\n" + leave, 1, lower.ErrLine},
		{"globals 1+\nbody a 3 0\n" + leave, 1, lower.ErrLine},
		{"globals +1\nbody a +3 0\n" + leave, 1, lower.ErrLine},
		{"globals -1\nbody a +3 0\n" + leave, 2, lower.ErrLine},
		{"globals 1\nbody a 3 +0\n" + leave, 2, lower.ErrLine},
		{"globals 1\nbody 1 3 0\n  return -1 +0 0 0 0 \"\"\n", 3, lower.ErrLine},
		{head + "  write 0 0 0 0 +0 \"+1\"\n" + leave, 3, lower.ErrLine},
		{head + "  write 0 0 0 0 1 +0 \"\\0\"\n" + leave, 3, lower.ErrLine},
		{head + "  write 0 0 0 0 0 \"+1\"\n" + leave, 0, api.OK},
		{"body a 0 0\n" + leave, 1, lower.ErrLine},
		{leave, 1, lower.ErrLine},
		{"globals 1\n" + leave, 2, lower.ErrLine},
		{"globals 1\nglobals 1\n", 2, lower.ErrLine},
		{head + "globals 1\n" + leave, 3, lower.ErrLine},
		{head + leave + "\n", 4, lower.ErrLine},
		{head + leave + leave[:len(leave)-1], 4, lower.ErrLine},
		{"globals 1\nbody a 0", 2, lower.ErrLine},
		{"globals 1\nbody a 0\n" + leave, 2, lower.ErrLine},
		{"globals 1\nbody a 0 0 0\n" + leave, 2, lower.ErrLine},
		{"globals 1\nbody a 0 x\n" + leave, 2, lower.ErrLine},
		{"globals 1\nbody a x 0\n" + leave, 2, lower.ErrLine},
		{"globals 1\nbody a b 0 0\n" + leave, 2, lower.ErrLine},
		{"globals 1\n  body a 0 0\n" + leave, 2, lower.ErrLine},
		{"globals 1\nbodya 0 0\n" + leave, 2, lower.ErrLine},
		{head + "return -1 0 0 0 0 \"\"\n", 3, lower.ErrLine},
		{head + " " + leave, 3, lower.ErrLine},
		{head + leave[1:], 3, lower.ErrLine},
		{head + "  leave -1 0 0 0 0 \"\"\n", 3, lower.ErrLine},
		{head + "  Return -1 0 0 0 0 \"\"\n", 3, lower.ErrLine},
		{head + "   -1 0 0 0 0 \"\"\n", 3, lower.ErrLine},
		{head + "  return -1 0 0 0 \"\"\n", 3, lower.ErrLine},
		{head + "  set x 0 0 0 0 \"\"\n" + leave, 3, lower.ErrLine},
		{head + "  set 1 0 0 0x0 0 \"\"\n" + leave, 3, lower.ErrLine},
		{head + "  write 0 0 0 0 1 y \"\\0\"\n" + leave, 3, lower.ErrLine},
		{head + "  return -1 0 0 0 0\n", 3, lower.ErrLine},
		{head + "  return -1 0 0 0 0 \n", 3, lower.ErrLine},
		{head + "  return -1 0 0 0 0 \"\n", 3, lower.ErrLine},
		{head + "  return -1 0 0 0 0 \"\" \n", 3, lower.ErrLine},
		{head + "  return -1  0 0 0 0 \"\"\n", 3, lower.ErrLine},
		{head + "  return -1 0 0 0 1 \"\"\n", 3, lower.ErrLine},
		{head + "  return -1 0 0 0 -1 \"\"\n", 3, lower.ErrLine},
		{head + "  return -1 0 0 0 9000000000000000000 \"\"\n", 3, lower.ErrLine},
		{head + "  return -1 0 0 0 0 0 \"\"\n", 3, lower.ErrLine},
		{head + "  return -1 0 0 0 0 \"\"\"\n", 3, lower.ErrLine},
		{head + "  write 0 0 0 0 0 \"\\\"\n", 3, lower.ErrLine},
		{head + "  write 0 0 0 0 0 \"\\n\"\n" + leave, 3, lower.ErrLine},
		{head + "  write 0 0 0 0 0 \"a\"b\"\n" + leave, 3, lower.ErrLine},
		{head + "  write 0 0 0 0 0 \"a\nb\"\n" + leave, 3, lower.ErrLine},
		{head + "  write 0 0 0 0 0 a\n" + leave, 3, lower.ErrLine},
		{head + "  nothing\n  nothing\n", 3, lower.ErrLine},
		// what was read has an error
		{"globals 1\n", 0, api.ErrCount},
		{"globals -1\nbody a 3 0\n" + leave, 0, api.ErrCount},
		{"globals 1\nbody a 5001 0\n" + leave, 0, api.ErrCount},
		{"globals 1\nbody a 3 0\n", 0, lower.ErrCode},
		{"globals 1\nbody 1 3 0\n" + leave, 0, lower.ErrCode},
		{"globals 1\nbody  3 0\n" + leave, 0, lower.ErrCode},
		{"globals 1\nbody a 3 1\n" + leave, 0, lower.ErrCode},
		{head + "  return 3 0 0 0 0 \"\"\n", 0, lower.ErrCode},
		{head + "  return 0 0 0 0 1 0 \"\"\n", 0, lower.ErrCode},
		{head + "  return 0 0 0 0 0 \"x\"\n", 0, lower.ErrCode},
		{head + "  write 0 0 0 0 0 \"\\0\"\n" + leave, 0, lower.ErrCode},
		{head + "  write 0 0 0 0 0 \"\t\"\n" + leave, 0, lower.ErrCode},
		// its text is another one
		{head + "  write 0 0 0 0 1 0 \"\x00\"\n" + leave, 0, lower.ErrLine},
		{"globals 01\nbody a 3 0\n" + leave, 0, lower.ErrLine},
		{"globals -0\nbody a 3 0\n" + leave, 0, lower.ErrLine},
		{head + "  set 0 -07 0 0 0 \"\"\n" + leave, 0, lower.ErrLine},
	} {
		got, line, e := lower.Read(c.text)
		if line != c.line || e != c.want || e != api.OK && !same(got, api.Code{}) {
			t.Errorf("Read(%q) = %v, %d, %v, want %d, %v", c.text, got, line, e, c.line, c.want)
		}
	}
}

// TestReadPlus puts a plus sign ahead of each number of texts, in turn.
func TestReadPlus(t *testing.T) {
	r := random{rand.New(rand.NewSource(19))}
	tried := 0
	for range 300 {
		s, _ := lower.Text(r.code())
		for _, at := range numbersIn(s) {
			changed, line := s[:at]+"+"+s[at:], 1+strings.Count(s[:at], "\n")
			got, n, e := lower.Read(changed)
			if n != line || e != lower.ErrLine || !same(got, api.Code{}) {
				t.Fatalf("Read(%q) = %v, %d, %v, want %d, %v", changed, got, n, e, line, lower.ErrLine)
			}
			tried++
		}
	}
	if tried < 300*10 {
		t.Errorf("only %d numbers", tried)
	}
}

// numbersIn returns where the numbers of a text of code begin; between quotes there are none.
func numbersIn(text string) (l []int) {
	begin := 0
	for _, line := range strings.SplitAfter(text, "\n") {
		fields, _, _ := strings.Cut(line, "\"")
		for at := range fields {
			if at > 0 && fields[at-1] == ' ' && strings.Contains("-0123456789", fields[at:at+1]) {
				l = append(l, begin+at)
			}
		}
		begin += len(line)
	}
	return l
}

// TestReadChanged asks that a changed text is no text, or that of other code.
func TestReadChanged(t *testing.T) {
	r := random{rand.New(rand.NewSource(18))}
	read := 0
	for range 8000 {
		c := r.code()
		s, _ := lower.Text(c)
		b := []byte(s)
		at := r.Intn(len(b))
		switch r.Intn(4) {
		case 0:
			b[at] = byte(r.Intn(256))
		case 1:
			b = slices.Delete(b, at, at+1)
		case 2:
			b = slices.Insert(b, at, " 019-+\"\\\nsx\x00"[r.Intn(12)])
		case 3:
			b = b[:at]
		}
		got, line, e := lower.Read(string(b))
		if e != api.OK {
			if !same(got, api.Code{}) || line > 0 && e != lower.ErrLine || line > 1+strings.Count(string(b), "\n") {
				t.Fatalf("Read(%q) = %v, %d, %v", b, got, line, e)
			}
			continue
		}
		read++
		if again, e := lower.Text(got); e != api.OK || again != string(b) || line != 0 {
			t.Fatalf("Read(%q) = %v, %d, whose text is %q, %v", b, got, line, again, e)
		}
	}
	if read < 200 {
		t.Errorf("only %d texts were read", read)
	}
}
