package param_test

import (
	"math/rand"
	"reflect"
	"slices"
	"testing"

	"raddle/api"
	"raddle/param"
	"raddle/syntax"
)

// TestEval asks for values by hand.
func TestEval(t *testing.T) {
	l := []param.Const{{"k", number(1)}, {"b", truth(true)}, {"k", number(3)}}
	for _, c := range []struct {
		text string
		want api.Node
		e    api.Errno
	}{
		{"if k > 2 then 2 * k else x", number(6), api.OK},
		{"if k < 2 then 2 * k else x", api.Node{}, param.ErrStatic},
		{"k", number(3), api.OK},
		{"b", truth(true), api.OK},
		{"-5", number(-5), api.OK},
		{"x", api.Node{}, param.ErrStatic},
		{"7 / -2", number(-3), api.OK},
		{"-7 / 2", number(-3), api.OK},
		{"-7 % 2", number(-1), api.OK},
		{"7 % -2", number(1), api.OK},
		{"1 / 0", api.Node{}, param.ErrStatic},
		{"1 % 0", api.Node{}, param.ErrStatic},
		{"9223372036854775807 + 1", api.Node{}, param.ErrStatic},
		{"-9223372036854775807 - 1", number(-9223372036854775807 - 1), api.OK},
		{"-9223372036854775807 - 2", api.Node{}, param.ErrStatic},
		{"-(-9223372036854775807 - 1)", api.Node{}, param.ErrStatic},
		{"(-9223372036854775807 - 1) / -1", api.Node{}, param.ErrStatic},
		{"(-9223372036854775807 - 1) % -1", number(0), api.OK},
		{"(-9223372036854775807 - 1) * -1", api.Node{}, param.ErrStatic},
		{"0 - (-9223372036854775807 - 1)", api.Node{}, param.ErrStatic},
		{"-1 - (-9223372036854775807 - 1)", number(9223372036854775807), api.OK},
		{"4294967296 * 2147483648", api.Node{}, param.ErrStatic},
		{"4294967296 * -2147483648", number(-9223372036854775807 - 1), api.OK},
		{"false && x", truth(false), api.OK},
		{"true || x", truth(true), api.OK},
		{"false && 1", truth(false), api.OK},
		{"true && 1", api.Node{}, param.ErrStatic},
		{"x && false", api.Node{}, param.ErrStatic},
		{"true && x", api.Node{}, param.ErrStatic},
		{"1 && 1", api.Node{}, param.ErrStatic},
		{"0 && true", api.Node{}, param.ErrStatic},
		{"true == b", truth(true), api.OK},
		{"true != b", truth(false), api.OK},
		{"true < b", api.Node{}, param.ErrStatic},
		{"1 == true", api.Node{}, param.ErrStatic},
		{"!1", api.Node{}, param.ErrStatic},
		{"-true", api.Node{}, param.ErrStatic},
		{"if 1 then 2 else 3", api.Node{}, param.ErrStatic},
		{"if b then 2 else true", number(2), api.OK},
		{"(1..k).size", number(3), api.OK},
		{"(k..1).size", number(0), api.OK},
		{"(1..10 by 3).size", number(4), api.OK},
		{"(1..10 by -3 # 2).size", number(2), api.OK},
		{"(1..10 by 0).size", api.Node{}, param.ErrStatic},
		{"(1..10 # 11).size", api.Node{}, param.ErrStatic},
		{"(1..10 # x).size", api.Node{}, param.ErrStatic},
		{"(1..2000000).size", api.Node{}, param.ErrStatic},
		{"(1..true).size", api.Node{}, param.ErrStatic},
		{"(false..true).size", api.Node{}, param.ErrStatic},
		{"((1..2)..3).size", api.Node{}, param.ErrStatic},
		{"(3 by 1).size", api.Node{}, param.ErrStatic},
		{"(1..2 by true).size", api.Node{}, param.ErrStatic},
		{"(1..2) == (1..2)", api.Node{}, param.ErrStatic},
		{"-(1..2)", api.Node{}, param.ErrStatic},
		{"(1..3).low", api.Node{}, param.ErrStatic},
		{"{1..3}.size", api.Node{}, param.ErrStatic},
		{"x.size", api.Node{}, param.ErrStatic},
		{"5.size", api.Node{}, param.ErrStatic},
		{"(if b then 1..2 else 1..3).size", api.Node{}, param.ErrStatic},
		{"1..2", api.Node{}, param.ErrStatic},
		{"here", api.Node{}, param.ErrStatic},
		{"numLocales", api.Node{}, param.ErrStatic},
		{"f(1)", api.Node{}, param.ErrStatic},
		{"+ reduce 1..3", api.Node{}, param.ErrStatic},
		{"k.read()", api.Node{}, param.ErrStatic},
		{"a[1]", api.Node{}, param.ErrStatic},
	} {
		got, e := param.Eval(expr(t, c.text), l)
		if !reflect.DeepEqual(got, c.want) || e != c.e {
			t.Errorf("Eval(%s) = %v, %v, want %v, %v", c.text, got, e, c.want, c.e)
		}
		if param.Known(expr(t, c.text), l) != (c.e == api.OK) {
			t.Errorf("Known(%s) = %v", c.text, c.e != api.OK)
		}
	}
}

func chain(depth int, end api.Node) api.Node {
	for range depth - 1 {
		end = api.Node{Op: api.Unary, Name: "-", Kids: []api.Node{end}}
	}
	return end
}

// TestEvalErrors asks for the order of errors.
func TestEvalErrors(t *testing.T) {
	good, bad := []param.Const{{"k", number(1)}}, []param.Const{{"k", number(1)}, {"", api.Node{Op: api.Name, Name: "x"}}}
	for i, c := range []struct {
		n    api.Node
		l    []param.Const
		want api.Errno
	}{
		{chain(60, number(1)), good, api.OK},
		{chain(61, number(1)), bad, api.ErrDepth},
		{chain(4001, number(1)), bad, api.ErrCount},
		{api.Node{}, bad, api.ErrForm},
		{api.Node{Op: api.Str, Name: "s"}, good, api.ErrForm},
		{api.Node{Op: api.Type, Name: "int"}, bad, api.ErrForm},
		{api.Node{Op: api.Return}, good, api.ErrForm},
		{number(1), bad, api.ErrArgument},
		{api.Node{Op: api.Here}, bad, api.ErrArgument},
		{number(1), []param.Const{{"k", api.Node{}}}, api.ErrArgument},
		{number(1), []param.Const{{"k", api.Node{Op: api.Bool, Num: 2}}}, api.ErrArgument},
		{number(1), []param.Const{{"k", api.Node{Op: api.Int, Name: "x"}}}, api.ErrArgument},
		{number(1), []param.Const{{"k", api.Node{Op: api.Int, Kids: []api.Node{number(1)}}}}, api.ErrArgument},
		{number(1), []param.Const{{"?", api.Node{Op: api.Int, Kids: []api.Node{}}}}, api.OK},
		{api.Node{Op: api.Here}, good, param.ErrStatic},
	} {
		got, e := param.Eval(c.n, c.l)
		if e != c.want || e != api.OK && !reflect.DeepEqual(got, api.Node{}) {
			t.Errorf("%d: Eval = %v, %v, want %v", i, got, e, c.want)
		}
		if param.Known(c.n, c.l) != (c.want == api.OK) {
			t.Errorf("%d: Known is wrong", i)
		}
	}
}

// TestEvalRandom compares values with those of big numbers and lists, and asks P12.2 and P12.5.
func TestEvalRandom(t *testing.T) {
	r := trees{rand.New(rand.NewSource(12))}
	values := 0
	for range 30000 {
		e, l := r.expr(r.pick("int bool"), 5), r.consts()
		want, ok := oracle(l).node(e)
		got, code := param.Eval(e, l)
		if ok != (code == api.OK) || !ok && code != param.ErrStatic || !reflect.DeepEqual(got, want) {
			t.Fatalf("Eval(%v, %v) = %v, %v, want %v", e, l, got, code, want)
		}
		if got2, code2 := param.Eval(param.Put(e, l), nil); code2 != code || !reflect.DeepEqual(got2, got) {
			t.Fatalf("Eval of Put(%v, %v) = %v, %v, want %v", e, l, got2, code2, got)
		}
		if got2, code2 := param.Eval(e, append(l, param.Const{Name: "unused", Value: truth(true)})); code2 != code || !reflect.DeepEqual(got2, got) {
			t.Fatalf("Eval(%v) with another constant = %v, %v", e, got2, code2)
		}
		if code == api.OK {
			values++
			if again, code := param.Eval(got, l); code != api.OK || !reflect.DeepEqual(again, got) {
				t.Fatalf("the value of %v is %v", got, again)
			}
		}
	}
	if values < 5000 {
		t.Errorf("only %d values", values)
	}
}

// shortened returns an expression whose largest parts with values are replaced, as the oracle tells.
func shortened(e api.Node) api.Node {
	if v, ok := oracle(nil).node(e); ok {
		return v
	}
	e.Kids = slices.Clone(e.Kids)
	for i, k := range e.Kids {
		if k.Op != api.Type {
			e.Kids[i] = shortened(k)
		}
	}
	return e
}

// TestExprRandom compares Expr with the oracle, and asks P12.3.
func TestExprRandom(t *testing.T) {
	r := trees{rand.New(rand.NewSource(13))}
	for range 10000 {
		e := r.expr(r.pick("int bool range"), 5)
		got := param.Expr(e)
		if want := shortened(e); !syntax.Same(got, want) {
			t.Fatalf("Expr(%v) = %v, want %v", e, got, want)
		}
		if again := param.Expr(got); !syntax.Same(again, got) {
			t.Fatalf("Expr of Expr(%v) = %v, want %v", e, again, got)
		}
		if param.Known(got, nil) != param.Known(e, nil) {
			t.Fatalf("Expr(%v) has a value: %v", e, param.Known(got, nil))
		}
	}
}

// TestExpr asks for expressions by hand, and for trees that are none.
func TestExpr(t *testing.T) {
	for text, want := range map[string]string{
		"1 + 2":                    "3",
		"1 + 2 + x + (1 + 2)":      "3 + x + 3",
		"x + 1 + 2":                "x + 1 + 2",
		"f(1 + 2, int, !true)":     "f(3, int, false)",
		"1 + 1..2 * 3":             "2..6",
		"(1 + 1..2 * 3).size":      "5",
		"false && f(1)":            "false",
		"if true then 2 else x":    "2",
		"if x then 1 + 1 else 0":   "if x then 2 else 0",
		"a[1 + 1]":                 "a[2]",
		"1 / 0 + (2 - 1)":          "1 / 0 + 1",
		"-(1 + 2)":                 "-3",
		"c.writeEF(2 * 3)":         "c.writeEF(6)",
		"{1..1 + 1} dmapped block": "{1..2} dmapped block",
	} {
		if got := param.Expr(expr(t, text)); !syntax.Same(got, expr(t, want)) {
			t.Errorf("Expr(%s) = %v, want %s", text, got, want)
		}
	}
	sum := api.Node{Op: api.Binary, Name: "+", Kids: []api.Node{number(1), number(2)}}
	wrong := api.Node{Op: api.Binary, Name: "+", Kids: []api.Node{number(1), number(2), sum}}
	for i, c := range [][2]api.Node{
		{{}, {}},
		{{Op: api.Str, Kids: []api.Node{sum}}, {Op: api.Str, Kids: []api.Node{sum}}},
		{{Op: api.Array, Kids: []api.Node{sum}}, {Op: api.Array, Kids: []api.Node{sum}}},
		{{Op: api.Write, Kids: []api.Node{sum}}, {Op: api.Write, Kids: []api.Node{sum}}},
		{{Op: api.Type, Kids: []api.Node{sum}}, {Op: api.Type, Kids: []api.Node{sum}}},
		{{Op: api.Call, Name: "f", Kids: []api.Node{sum, {Op: api.Str, Kids: []api.Node{sum}}, {Op: api.Type, Kids: []api.Node{sum}}, {Op: api.Write, Kids: []api.Node{sum}}}}, {Op: api.Call, Name: "f", Kids: []api.Node{number(3), {Op: api.Str, Kids: []api.Node{sum}}, {Op: api.Type, Kids: []api.Node{sum}}, {Op: api.Write, Kids: []api.Node{sum}}}}},
		{wrong, {Op: api.Binary, Name: "+", Kids: []api.Node{number(1), number(2), number(3)}}},
		{{Op: api.Unary, Name: "-", Kids: []api.Node{wrong}}, {Op: api.Unary, Name: "-", Kids: []api.Node{{Op: api.Binary, Name: "+", Kids: []api.Node{number(1), number(2), number(3)}}}}},
		{{Op: api.Unary, Name: "?", Kids: []api.Node{sum}}, {Op: api.Unary, Name: "?", Kids: []api.Node{number(3)}}},
		{{Op: api.Cond, Kids: []api.Node{truth(true), sum, wrong}}, {Op: api.Cond, Kids: []api.Node{truth(true), number(3), {Op: api.Binary, Name: "+", Kids: []api.Node{number(1), number(2), number(3)}}}}},
		{{Op: api.Unary, Kids: []api.Node{}}, {Op: api.Unary}},
		{chain(1001, number(5)), number(5)},
		{chain(1001, api.Node{Op: api.Binary, Name: "+", Kids: []api.Node{{Op: api.Here}, sum}}), chain(1001, api.Node{Op: api.Binary, Name: "+", Kids: []api.Node{{Op: api.Here}, number(3)}})},
	} {
		got := param.Expr(c[0])
		if !syntax.Same(got, c[1]) {
			t.Errorf("%d: Expr = %v, want %v", i, got, c[1])
		}
		if !syntax.Same(param.Expr(got), got) {
			t.Errorf("%d: Expr of Expr is another one", i)
		}
	}
}
