package expr_test

import (
	"math"
	"slices"
	"strconv"
	"strings"
	"testing"

	"bywash/api"
	"bywash/expr"
	"bywash/schema"
	"bywash/value"
)

// Short names, so that expressions in tests stay readable.
func col(name string) expr.Expr                         { return expr.Column(name) }
func num(n int) expr.Expr                               { return expr.Const(value.Of(n)) }
func text(s string) expr.Expr                           { return expr.Const(value.Text(s)) }
func null() expr.Expr                                   { return expr.Const(value.Null()) }
func un(op string, a expr.Expr) expr.Expr               { return expr.Unary(op, a) }
func bin(a expr.Expr, op string, b expr.Expr) expr.Expr { return expr.Binary(op, a, b) }
func call(name string, args ...expr.Expr) expr.Expr     { return expr.Call(name, args...) }

// shape is what tells one operator or function from the others.
type shape struct {
	kind     int
	op, name string
}

// signatures lists all operators and functions: a letter for each argument, and one for the result.
// The letters: i an integer, t a string, s the same as the others with this letter, x anything.
var signatures = makeSignatures()

func makeSignatures() map[shape]string {
	m := map[shape]string{
		{3, "-", ""}: "ii", {3, "not", ""}: "xi", {4, "and", ""}: "xxi", {4, "or", ""}: "xxi",
		{5, "", "len"}: "ti", {5, "", "abs"}: "ii", {5, "", "isnull"}: "xi",
		{5, "", "cat"}: "ttt", {5, "", "either"}: "sss", {5, "", "if"}: "xsss",
	}
	for _, op := range strings.Fields("+ - * / %") {
		m[shape{4, op, ""}] = "iii"
	}
	for _, op := range strings.Fields("= != < <= > >=") {
		m[shape{4, op, ""}] = "ssi"
	}
	return m
}

// shapes lists the operators and functions, in the same order in each run.
var shapes = makeShapes()

func makeShapes() []shape {
	var l []shape
	for h := range signatures {
		l = append(l, h)
	}
	slices.SortFunc(l, func(a, b shape) int {
		return strings.Compare(strconv.Itoa(a.kind)+a.op+a.name, strconv.Itoa(b.kind)+b.op+b.name)
	})
	return l
}

// with returns the expression of this shape with these Args, as many as they are.
func (h shape) with(args ...expr.Expr) expr.Expr {
	return expr.Expr{Kind: h.kind, Op: h.op, Name: h.name, Args: args}
}

// columns is the schema of most tests: two columns of each type.
func columns() schema.Schema {
	return schema.Schema{{Name: "a", Type: 1}, {Name: "b", Type: 1}, {Name: "s", Type: 2}, {Name: "t", Type: 2}}
}

// wrongSchemas lists schemas that are not valid, with the error of Check.
func wrongSchemas() map[api.Errno]schema.Schema {
	return map[api.Errno]schema.Schema{
		api.ErrMany:  nil,
		api.ErrName:  {{Name: "a", Type: 1}, {Name: "B", Type: 1}},
		api.ErrType:  {{Name: "a", Type: 1}, {Name: "b", Type: 3}},
		api.ErrTwice: {{Name: "a", Type: 1}, {Name: "a", Type: 1}},
	}
}

// chain returns not not .. x, which has n expressions more than x.
func chain(n int, x expr.Expr) expr.Expr {
	for range n {
		x = expr.Expr{Kind: 3, Op: "not", Args: []expr.Expr{x}}
	}
	return x
}

// broad returns an expression of n expressions whose depth is not more than 9 if n is at most 256.
func broad(n int) expr.Expr {
	switch {
	case n == 1:
		return num(1)
	case n%2 == 0:
		return un("not", broad(n-1))
	case n%4 == 1:
		return bin(broad(n/2-1), "and", broad(n/2+1))
	}
	return bin(broad(n/2), "or", broad(n/2))
}

// shared returns an expression of 2^(n+1)-1 expressions in little memory.
func shared(n int) expr.Expr {
	x := num(1)
	for range n {
		x = expr.Expr{Kind: 4, Op: "and", Args: []expr.Expr{x, x}}
	}
	return x
}

// malformed lists expressions whose form is not valid, though each is one of a valid form but for one thing.
func malformed() []expr.Expr {
	one, two, three := []expr.Expr{num(1)}, []expr.Expr{num(1), num(1)}, []expr.Expr{num(1), num(1), num(1)}
	l := []expr.Expr{
		{}, {Kind: -1}, {Kind: 6}, {Kind: math.MinInt}, {Kind: math.MaxInt}, {Name: "a"}, {Kind: 6, Name: "a"},
		{Kind: 0, Op: "-", Args: one}, {Kind: 6, Op: "+", Args: two}, {Kind: 6, Name: "len", Args: one}, {Kind: -1, Name: "if", Args: three},
		{Kind: 1, Name: "a", Args: one}, {Kind: 1, Name: "a", Op: "-"}, {Kind: 1, Name: "a", Op: "-", Args: one}, {Kind: 1, Name: "a", Op: " "},
		{Kind: 1, Name: "a", Value: value.Of(0)}, {Kind: 1, Name: "a", Value: value.Of(1)}, {Kind: 1, Name: "a", Value: value.Text("")},
		{Kind: 1, Name: "a", Value: value.Value{Int: 1}}, {Kind: 1, Name: "a", Value: value.Value{Text: "a"}}, {Kind: 1, Name: "a", Value: value.Value{Kind: 3}},
		{Kind: 2, Name: "a"}, {Kind: 2, Op: "-"}, {Kind: 2, Args: one}, {Kind: 2, Value: value.Of(1), Name: "len", Args: one}, {Kind: 2, Value: value.Of(1), Op: "+"},
	}
	for _, v := range []value.Value{
		{Kind: 3}, {Kind: -1}, {Int: 1}, {Text: "a"}, {Kind: 1, Text: "a"}, {Kind: 2, Int: 1}, {Kind: 2, Text: "\n"}, {Kind: 2, Text: "\x7f"},
		{Kind: 2, Text: strings.Repeat("a", api.MaxText+1)},
	} {
		l = append(l, expr.Const(v))
	}
	for _, op := range []string{"", " ", "+", "!", "~", "--", "Not", "NOT", "not ", " not", "no", "nott", "and", "abs", "len", "isnull", "\x00", strings.Repeat("-", 1<<10)} {
		l = append(l, expr.Expr{Kind: 3, Op: op, Args: one})
	}
	for _, op := range []string{"", " ", "not", "==", "<>", "=<", "=>", "!", "<<", ">>", "++", "&&", "||", "And", "OR", "and ", " or", "an", "orr", "cat", "either", "**", "&", "^", "//", "+-", "\xff"} {
		l = append(l, expr.Expr{Kind: 4, Op: op, Args: two})
	}
	for n, args := range [][]expr.Expr{nil, one, two, three} {
		for _, name := range strings.Fields("x a and or not - + Len LEN lenn le abss Abs ab isnul is_null isNull max min concat coalesce Cat catt ifnull If iff i null") {
			l = append(l, call(name, args...))
		}
		l = append(l, call(""), call("", args...), call("len ", args...), call(" if", args...), call("cat\x00", args...))
		for h, sig := range signatures {
			if n == len(sig)-1 {
				l = append(l, dressed(h.with(args...))...)
			}
		}
	}
	return l
}

// dressed lists what becomes of a valid operation or call if something is set that its Kind does not have.
func dressed(e expr.Expr) []expr.Expr {
	var l []expr.Expr
	add := func(f func(e *expr.Expr)) {
		x := e
		f(&x)
		l = append(l, x)
	}
	for _, v := range []value.Value{value.Of(0), value.Of(1), value.Text(""), value.Text("a"), {Int: 1}, {Text: "a"}, {Kind: 3}} {
		add(func(e *expr.Expr) { e.Value = v })
	}
	add(func(e *expr.Expr) { e.Op += "x" })
	add(func(e *expr.Expr) { e.Name += "x" })
	add(func(e *expr.Expr) { e.Name, e.Op = e.Op, e.Name })
	add(func(e *expr.Expr) { e.Name = e.Op + e.Name; e.Op = e.Name })
	return l
}

// same holds expressions against each other by what they are made of, without Equal.
func same(a, b expr.Expr) bool {
	if a.Kind != b.Kind || a.Name != b.Name || a.Value != b.Value || a.Op != b.Op || len(a.Args) != len(b.Args) {
		return false
	}
	for i := range a.Args {
		if !same(a.Args[i], b.Args[i]) {
			return false
		}
	}
	return true
}

// P4.1: the constructors, for any words and any number of Args.
func TestMake(t *testing.T) {
	x := expr.Expr{Kind: 1, Name: "a"}
	y := expr.Expr{Kind: 2, Value: value.Value{Kind: 1, Int: 7}}
	z := expr.Expr{Kind: 4, Op: "+", Args: []expr.Expr{x, y}}
	bad := expr.Expr{Kind: 9, Name: "n", Op: "o", Value: value.Value{Kind: 8}, Args: []expr.Expr{z, {}}}
	for _, c := range []struct{ got, want expr.Expr }{
		{expr.Column("a"), x}, {expr.Column(""), expr.Expr{Kind: 1}}, {expr.Column("\xff A"), expr.Expr{Kind: 1, Name: "\xff A"}},
		{expr.Const(value.Of(7)), y}, {expr.Const(value.Null()), expr.Expr{Kind: 2}},
		{expr.Const(value.Text("q")), expr.Expr{Kind: 2, Value: value.Value{Kind: 2, Text: "q"}}},
		{expr.Const(value.Value{Kind: 5, Int: 1, Text: "\n"}), expr.Expr{Kind: 2, Value: value.Value{Kind: 5, Int: 1, Text: "\n"}}},
		{expr.Unary("-", x), expr.Expr{Kind: 3, Op: "-", Args: []expr.Expr{x}}},
		{expr.Unary("not", z), expr.Expr{Kind: 3, Op: "not", Args: []expr.Expr{z}}},
		{expr.Unary("", bad), expr.Expr{Kind: 3, Args: []expr.Expr{bad}}},
		{expr.Binary("+", x, y), z}, {expr.Binary("-", y, x), expr.Expr{Kind: 4, Op: "-", Args: []expr.Expr{y, x}}},
		{expr.Binary("or", z, z), expr.Expr{Kind: 4, Op: "or", Args: []expr.Expr{z, z}}},
		{expr.Binary("?", bad, x), expr.Expr{Kind: 4, Op: "?", Args: []expr.Expr{bad, x}}},
		{expr.Call("len"), expr.Expr{Kind: 5, Name: "len"}}, {expr.Call(""), expr.Expr{Kind: 5}},
		{expr.Call("abs", y), expr.Expr{Kind: 5, Name: "abs", Args: []expr.Expr{y}}},
		{expr.Call("cat", x, z), expr.Expr{Kind: 5, Name: "cat", Args: []expr.Expr{x, z}}},
		{expr.Call("if", x, y, z), expr.Expr{Kind: 5, Name: "if", Args: []expr.Expr{x, y, z}}},
		{expr.Call("q", z, y, x, bad, x), expr.Expr{Kind: 5, Name: "q", Args: []expr.Expr{z, y, x, bad, x}}},
		{expr.Call("q", []expr.Expr{}...), expr.Expr{Kind: 5, Name: "q"}},
	} {
		if !same(c.got, c.want) {
			t.Errorf("got %v, want %v", c.got, c.want)
		}
	}
}

// P4.1: the number of expressions.
func TestSize(t *testing.T) {
	for _, c := range []struct {
		e    expr.Expr
		want int
	}{
		{expr.Expr{}, 1}, {col("a"), 1}, {num(1), 1}, {un("-", num(1)), 2}, {bin(num(1), "+", col("a")), 3}, {call("len"), 1}, {call("len", text("a")), 2},
		{call("if", num(1), num(1), num(1)), 4}, {bin(un("-", num(1)), "+", num(1)), 4}, {bin(num(1), "+", un("-", num(1))), 4},
		{bin(bin(num(1), "*", num(1)), "+", bin(num(1), "*", num(1))), 7}, {call("q", num(1), un("-", num(1)), call("q", num(1), num(1)), num(1)), 8},
		{expr.Expr{Kind: 1, Name: "a", Args: []expr.Expr{num(1), {}}}, 3}, {expr.Expr{Kind: 9, Args: make([]expr.Expr, 1<<16)}, 1<<16 + 1},
		{expr.Expr{Args: []expr.Expr{{}, {Args: []expr.Expr{{}, {}}}, {}}}, 6}, {shared(15), 1<<16 - 1}, {chain(1<<16-1, num(1)), 1 << 16},
	} {
		if got := c.e.Size(); got != c.want {
			t.Errorf("Size of an expression of Kind %d: %d, want %d", c.e.Kind, got, c.want)
		}
	}
	for n := 1; n < 600; n++ {
		if got := broad(n).Size(); got != n {
			t.Errorf("Size of %d expressions: %d", n, got)
		}
	}
}

// different lists expressions of which no two are equal.
func different() []expr.Expr {
	l := []expr.Expr{
		col("a"), col("b"), col(""), col("-"), null(), num(0), num(1), num(-1), text(""), text("a"), text("null"), {}, {Kind: 6},
		{Name: "a"}, {Op: "-"}, {Value: value.Of(1)}, {Value: value.Value{Int: 1}}, {Value: value.Value{Text: "a"}}, {Kind: 1, Op: "-"}, {Kind: 1, Name: "a", Op: "-"},
		{Kind: 2, Name: "a"}, {Kind: 1, Name: "a", Value: value.Of(1)}, {Args: []expr.Expr{{}}}, {Args: []expr.Expr{{}, {}}}, {Args: []expr.Expr{{}, {}, {}}},
		un("-", num(1)), un("not", num(1)), un("", num(1)), un("-", num(2)), un("-", col("a")), un("-", un("-", num(1))), un("-", bin(num(1), "-", num(2))),
		{Kind: 3, Op: "-"}, {Kind: 4, Op: "-"}, {Kind: 5, Op: "-"}, {Kind: 5, Name: "-"}, {Kind: 4, Op: "-", Args: []expr.Expr{num(1)}},
		bin(num(1), "-", num(2)), bin(num(2), "-", num(1)), bin(num(1), "-", num(1)), bin(num(1), "+", num(2)), bin(num(1), "-", null()), bin(num(1), "<", num(2)),
		bin(bin(num(1), "-", num(2)), "-", num(3)), bin(num(1), "-", bin(num(2), "-", num(3))),
		call("len"), call("len", num(1)), call("abs", num(1)), call("cat", num(1)), call("cat", num(1), num(2)), call("cat", num(2), num(1)),
		call("cat", num(1), num(2), num(3)), call("cat", num(1), num(2), num(4)), call("cat", num(1), call("cat", num(2))), call("cat", call("cat", num(1)), num(2)),
		call("cat", num(1), call("cat", num(2), expr.Expr{})), {Kind: 5, Name: "cat", Op: "cat", Args: []expr.Expr{num(1)}}, {Kind: 5, Name: "cat", Value: value.Of(1), Args: []expr.Expr{num(1)}},
	}
	return append(l, chain(200, num(1)), chain(200, num(2)), chain(201, num(1)), broad(255), broad(256), broad(257))
}

// P4.1: equality, in all fields and at any depth.
func TestEqual(t *testing.T) {
	l, m := different(), different()
	for i, a := range l {
		for k, b := range m {
			if got := a.Equal(b); got != (i == k) {
				t.Errorf("Equal of %v and %v: %v", a, b, got)
			}
		}
	}
	none, empty := expr.Expr{Kind: 5, Name: "f"}, expr.Expr{Kind: 5, Name: "f", Args: []expr.Expr{}}
	if !none.Equal(empty) || !empty.Equal(none) || !un("-", none).Equal(expr.Expr{Kind: 3, Op: "-", Args: []expr.Expr{empty}}) {
		t.Errorf("nil and empty Args are not equal")
	}
	full := expr.Expr{Kind: 5, Name: "f", Args: []expr.Expr{num(1), num(2)}}
	part := expr.Expr{Kind: 5, Name: "f", Args: full.Args[:1]}
	if full.Equal(part) || part.Equal(full) || !part.Equal(call("f", num(1))) {
		t.Errorf("spare capacity counts")
	}
}

// P4.1: the names of columns, in order and each once.
func TestColumns(t *testing.T) {
	many := call("f", col("b"), bin(col("a_"), "+", col("a")), un("-", col("b")), col("a1"), call("g", col("a"), num(1), text("z"), col("aa")))
	odd := expr.Expr{Kind: 7, Name: "k", Args: []expr.Expr{{Kind: 1, Name: "y", Args: []expr.Expr{col("x"), {Name: "n"}, num(1)}}, {Kind: 2, Name: "c", Op: "d"}, col("w")}}
	bytes := call("f", col("\xff"), col("~"), col("\u00e9"), col("a"), col(""), col("B"), col("\x00"), col("A"), col("a\x00"), col("10"), col("9"))
	for _, c := range []struct {
		e    expr.Expr
		want []string
	}{
		{num(1), nil}, {text("a"), nil}, {expr.Expr{}, nil}, {call("len"), nil}, {call("a", text("b")), nil}, {expr.Expr{Name: "a"}, nil}, {un("-", num(1)), nil},
		{col("a"), []string{"a"}}, {col(""), []string{""}}, {un("-", col("a")), []string{"a"}}, {bin(col("a"), "+", col("a")), []string{"a"}},
		{bin(col("b"), "+", col("a")), []string{"a", "b"}}, {bin(col("a"), "+", col("b")), []string{"a", "b"}},
		{bin(bin(col("c"), "+", col("a")), "+", bin(col("b"), "+", col("a"))), []string{"a", "b", "c"}},
		{call("if", col("t"), col("s"), col("t")), []string{"s", "t"}}, {many, []string{"a", "a1", "a_", "aa", "b"}}, {odd, []string{"w", "x", "y"}},
		{bytes, []string{"", "\x00", "10", "9", "A", "B", "a", "a\x00", "~", "\u00e9", "\xff"}}, {chain(1<<16-1, col("deep")), []string{"deep"}},
	} {
		if got := c.e.Columns(); !slices.Equal(got, c.want) {
			t.Errorf("Columns of %.200q: %q, want %q", c.e.Name, got, c.want)
		}
	}
	var args []expr.Expr
	var want []string
	for i := range 1000 {
		args = append(args, col("c"+strconv.Itoa(i*7919%1000)), col("c"+strconv.Itoa(i*i%1000)))
		want = append(want, "c"+strconv.Itoa(i))
	}
	slices.Sort(want)
	if got := call("f", args...).Columns(); !slices.Equal(got, want) {
		t.Errorf("Columns of 2000 columns: %q", got)
	}
}

// spare is what fills spare capacity, so that any write to it is seen.
func spare() expr.Expr { return expr.Expr{Kind: 77, Name: "spare", Args: []expr.Expr{num(77)}} }

// filled returns e with spare capacity in all its Args.
func filled(e expr.Expr) expr.Expr {
	e.Args = filledList(e.Args)
	return e
}

func filledList(l []expr.Expr) []expr.Expr {
	c := make([]expr.Expr, len(l)+3)
	for i := range c {
		c[i] = spare()
	}
	for i, a := range l {
		c[i] = filled(a)
	}
	return c[:len(l)]
}

// intact reports whether e is what filled made of want.
func intact(e, want expr.Expr) bool { return same(e, want) && spared(e.Args) }

// spared reports whether the spare capacity of l, and that of all Args in it, is as filledList left it.
func spared(l []expr.Expr) bool {
	for _, e := range l[len(l):cap(l)] {
		if !same(e, spare()) {
			return false
		}
	}
	return !slices.ContainsFunc(l, func(e expr.Expr) bool { return !spared(e.Args) })
}

// cells lists the addresses of all memory that Args in e have, their spare capacity included.
func cells(e expr.Expr) []*expr.Expr {
	var l []*expr.Expr
	args := e.Args[:cap(e.Args)]
	for i := range args {
		l = append(append(l, &args[i]), cells(args[i])...)
	}
	return l
}

// apart reports memory that is in more than one place.
func apart(t *testing.T, name string, places ...expr.Expr) {
	t.Helper()
	seen := map[*expr.Expr]int{}
	for i, e := range places {
		for _, p := range cells(e) {
			if k, ok := seen[p]; ok {
				t.Fatalf("%s: the places %d and %d share memory", name, k, i)
			}
			seen[p] = i
		}
	}
}

// scribble overwrites all the memory of e, its spare capacity included.
func scribble(e expr.Expr) {
	for _, p := range cells(e) {
		*p = expr.Expr{Kind: 66, Name: "scribble"}
	}
}

// samples lists expressions of all kinds for the tests of memory.
func samples() []expr.Expr {
	l := []expr.Expr{
		col("a"), num(7), null(), text("x"), un("-", col("a")), bin(col("a"), "+", un("-", num(2))), call("if", bin(col("a"), "<", col("b")), text("x"), call("cat", col("s"), col("t"))),
		call("f"), bin(bin(col("a"), "/", num(0)), "or", num(1)), chain(40, num(1)), broad(20), {Kind: 9, Args: []expr.Expr{{}, un("-", num(1))}},
	}
	return append(l, malformed()...)
}

// P4.4: arguments, and their spare capacity, are not modified.
func TestArguments(t *testing.T) {
	l := samples()
	row := []value.Value{value.Of(1), value.Null(), value.Text("x"), value.Text("y"), value.Text("spare"), value.Text("spare")}
	s := append(columns(), schema.Column{Name: "spare"}, schema.Column{Name: "spare"})
	wantRow, wantS := slices.Clone(row), slices.Clone(s)
	for i, want := range l {
		wantO := l[(i*7+3)%len(l)]
		e, o := filled(want), filled(wantO)
		args := filledList([]expr.Expr{want, wantO, want})
		expr.Unary("-", e)
		expr.Binary("+", e, o)
		expr.Binary("+", e, e)
		expr.Call("if", args...)
		expr.Call("if", args[:2]...)
		e.Size()
		e.Equal(o)
		e.Equal(e)
		e.Columns()
		e.Type(s[:4])
		e.Eval(s[:4], row[:4])
		call := expr.Expr{Kind: 5, Name: "if", Args: args}
		if !intact(e, want) || !intact(o, wantO) || !intact(call, expr.Expr{Kind: 5, Name: "if", Args: []expr.Expr{want, wantO, want}}) {
			t.Errorf("arguments %v are modified", want)
		}
	}
	if !slices.Equal(row, wantRow) || !slices.Equal(s, wantS) {
		t.Errorf("a row or a schema is modified: %v, %v", row, s)
	}
}

// P4.4: Args of results are new memory, and arguments are not retained.
func TestResults(t *testing.T) {
	l := samples()
	for i, a := range l {
		b := l[(i*5+2)%len(l)]
		for name, f := range map[string]func(x, y expr.Expr, l []expr.Expr) expr.Expr{
			"Unary":       func(x, _ expr.Expr, _ []expr.Expr) expr.Expr { return expr.Unary("-", x) },
			"Binary":      func(x, y expr.Expr, _ []expr.Expr) expr.Expr { return expr.Binary("+", x, y) },
			"Binary same": func(x, _ expr.Expr, _ []expr.Expr) expr.Expr { return expr.Binary("+", x, x) },
			"Call":        func(_, _ expr.Expr, l []expr.Expr) expr.Expr { return expr.Call("if", l...) },
			"Call part":   func(_, _ expr.Expr, l []expr.Expr) expr.Expr { return expr.Call("if", l[:1]...) },
			"Call none":   func(_, _ expr.Expr, l []expr.Expr) expr.Expr { return expr.Call("if", l[:0]...) },
			"Call same":   func(x, _ expr.Expr, _ []expr.Expr) expr.Expr { return expr.Call("if", x, x, x) },
		} {
			x, y := filled(a), filled(b)
			args := filledList([]expr.Expr{a, b, a})
			all := expr.Expr{Args: args}
			first, second := f(x, y, args), f(x, y, args)
			apart(t, name, x, y, all, first, second)
			want := filled(second)
			scribble(first)
			if !intact(x, a) || !intact(y, b) || !intact(all, expr.Expr{Args: []expr.Expr{a, b, a}}) || !same(second, want) {
				t.Errorf("%s: the result shares memory", name)
			}
			scribble(x)
			scribble(y)
			scribble(all)
			if !same(second, want) {
				t.Errorf("%s: an argument is kept", name)
			}
		}
	}
}

// P4.4: Args that share memory as arguments do not as results.
func TestResultsShared(t *testing.T) {
	x := shared(6)
	apart(t, "Unary", expr.Unary("-", x))
	apart(t, "Binary", expr.Binary("-", x, x.Args[0]), expr.Binary("-", x, x))
	apart(t, "Call", expr.Call("f", x, x, x.Args[1]), expr.Call("f", x.Args...))
	y := expr.Call("f", x.Args...)
	x.Args[0] = num(9)
	if !same(y, expr.Expr{Kind: 5, Name: "f", Args: []expr.Expr{shared(5), shared(5)}}) {
		t.Errorf("Call keeps its list of Args")
	}
}

// P4.4: names are new memory.
func TestResultsColumns(t *testing.T) {
	e := call("f", col("c"), col("a"), bin(col("b"), "+", col("a")), col("c"))
	first, second := e.Columns(), e.Columns()
	if cap(first) > 0 && &first[:1][0] == &second[:1][0] {
		t.Errorf("two results of Columns share memory")
	}
	first = first[:cap(first)]
	for i := range first {
		first[i] = "scribble"
	}
	want := []string{"a", "b", "c"}
	if !slices.Equal(second, want) || !slices.Equal(e.Columns(), want) || !same(e, call("f", col("c"), col("a"), bin(col("b"), "+", col("a")), col("c"))) {
		t.Errorf("the result of Columns shares memory")
	}
}

// P1: every call ends and does not panic, whatever it is given.
func TestEnds(t *testing.T) {
	l := append(samples(), different()...)
	l = append(l, chain(1<<16-1, expr.Expr{}), expr.Expr{Kind: 4, Op: "+", Args: make([]expr.Expr, 1<<16)}, shared(16))
	rows := [][]value.Value{nil, {value.Of(1)}, {{Kind: 3}}, make([]value.Value, 4), {value.Text("x"), value.Of(1), value.Of(1), {Kind: math.MinInt}}, make([]value.Value, 1<<10)}
	schemas := []schema.Schema{nil, {}, columns(), columns()[:1], make(schema.Schema, 1<<10), {{Name: "a", Type: 7}}, {{Name: "", Type: 1}}}
	for i, e := range l {
		e.Size()
		e.Columns()
		e.Equal(e)
		e.Equal(l[(i+1)%len(l)])
		for _, s := range schemas {
			e.Type(s)
			for _, r := range rows {
				e.Eval(s, r)
			}
		}
	}
	for _, x := range []expr.Expr{shared(60), shared(1000), chain(1<<15, shared(60))} {
		if n, errno := x.Type(columns()); n != 0 || errno != api.ErrMany {
			t.Errorf("Type of very many expressions: %d, %d", n, errno)
		}
		if v, errno := x.Eval(columns(), nil); v != value.Null() || errno != api.ErrMany {
			t.Errorf("Eval of very many expressions: %v, %d", v, errno)
		}
	}
}
