package expr_test

import (
	"math"
	"math/big"
	"math/rand"
	"strings"
	"testing"

	"bywash/api"
	"bywash/expr"
	"bywash/schema"
	"bywash/value"
)

// row is the row of most tests: a is 2, b is null, s is xy, t is null.
func row() []value.Value {
	return []value.Value{value.Of(2), value.Null(), value.Text("xy"), value.Null()}
}

// wide returns a string of n bytes.
func wide(n int) expr.Expr { return text(strings.Repeat("w", n)) }

// Expressions whose evaluation fails: divides and overflows are integers, the others strings.
func divides() expr.Expr       { return bin(num(1), "/", num(0)) }
func overflows() expr.Expr     { return un("-", num(math.MinInt)) }
func dividesText() expr.Expr   { return call("if", divides(), text("x"), text("y")) }
func overflowsText() expr.Expr { return call("cat", wide(64), text("x")) }

// checkEval holds Eval of e against what is wanted; with an error, the value is the zero one.
func checkEval(t *testing.T, e expr.Expr, s schema.Schema, row []value.Value, want value.Value, errno api.Errno) {
	t.Helper()
	if got, got2 := e.Eval(s, row); got != want || got2 != errno {
		t.Errorf("Eval of %v for %v: %#v, %d, want %#v, %d", e, row, got, got2, want, errno)
	}
}

// stop ends a reckoning with an error.
type stop api.Errno

// reckonedValue is what the document asks of the value of e, which has a type.
func reckonedValue(e expr.Expr, cells map[string]value.Value) (v value.Value, errno api.Errno) {
	defer func() {
		if r := recover(); r != nil {
			v, errno = value.Value{}, api.Errno(r.(stop))
		}
	}()
	return reckon(e, cells), api.OK
}

func reckon(e expr.Expr, cells map[string]value.Value) value.Value {
	arg := func(i int) value.Value { return reckon(e.Args[i], cells) }
	null := func(v value.Value) bool { return v.Kind == 0 }
	switch e.Kind {
	case 1:
		return cells[e.Name]
	case 2:
		return e.Value
	case 4:
		if e.Op != "and" && e.Op != "or" {
			a, b := arg(0), arg(1)
			if null(a) || null(b) {
				return value.Value{}
			}
			return reckonTwo(e.Op, a, b)
		}
	}
	switch e.Op + e.Name {
	case "and":
		return bit(yes(arg(0)) && yes(arg(1)))
	case "or":
		return bit(yes(arg(0)) || yes(arg(1)))
	case "if":
		if yes(arg(0)) {
			return arg(1)
		}
		return arg(2)
	case "either":
		if v := arg(0); !null(v) {
			return v
		}
		return arg(1)
	case "cat":
		if a, b := arg(0), arg(1); !null(a) && !null(b) {
			if len(a.Text)+len(b.Text) > 64 {
				panic(stop(api.ErrOverflow))
			}
			return value.Value{Kind: 2, Text: a.Text + b.Text}
		}
		return value.Value{}
	}
	return reckonOne(e, arg(0))
}

func reckonOne(e expr.Expr, v value.Value) value.Value {
	switch e.Op + e.Name {
	case "not":
		return bit(!yes(v))
	case "isnull":
		return bit(v.Kind == 0)
	}
	if v.Kind == 0 {
		return v
	}
	switch {
	case e.Name == "len":
		return value.Value{Kind: 1, Int: len(v.Text)}
	case e.Name == "abs" && v.Int >= 0:
		return v
	}
	return exact(new(big.Int).Neg(big.NewInt(int64(v.Int))))
}

func reckonTwo(op string, a, b value.Value) value.Value {
	if strings.Contains("= != < <= > >=", op) {
		n := a.Cmp(b)
		return bit(map[string]bool{"=": n == 0, "!=": n != 0, "<": n < 0, "<=": n <= 0, ">": n > 0, ">=": n >= 0}[op])
	}
	x, y, z := big.NewInt(int64(a.Int)), big.NewInt(int64(b.Int)), new(big.Int)
	if strings.Contains("/%", op) && b.Int == 0 {
		panic(stop(api.ErrDivide))
	}
	switch op {
	case "+":
		z.Add(x, y)
	case "-":
		z.Sub(x, y)
	case "*":
		z.Mul(x, y)
	case "/":
		z.Quo(x, y)
	case "%":
		z.Rem(x, y)
	}
	return exact(z)
}

func exact(z *big.Int) value.Value {
	if !z.IsInt64() {
		panic(stop(api.ErrOverflow))
	}
	return value.Value{Kind: 1, Int: int(z.Int64())}
}

func yes(v value.Value) bool { return v.Kind == 1 && v.Int != 0 }

func bit(b bool) value.Value {
	if b {
		return value.Value{Kind: 1, Int: 1}
	}
	return value.Value{Kind: 1}
}

// P4.3: values, written out: the integers.
func TestEval(t *testing.T) {
	for want, l := range map[int][]expr.Expr{
		-3: {bin(num(-7), "/", num(2)), un("-", num(3)), bin(num(-1), "-", num(2)), un("-", bin(num(1), "+", col("a"))), bin(num(-3), "%", num(5))},
		0: {
			num(0), bin(num(1), "-", num(1)), un("-", num(0)), bin(num(0), "*", num(math.MinInt)), bin(num(1), "/", num(2)), bin(num(math.MinInt), "%", num(-1)),
			un("not", num(1)), un("not", num(-1)), un("not", col("a")), bin(num(1), "=", num(2)), bin(text("x"), "!=", text("x")),
			bin(num(2), "<", num(2)), bin(num(3), "<=", num(2)), bin(num(2), ">", num(2)), bin(num(1), ">=", num(2)), bin(text("b"), "<", text("a")), bin(text("10"), ">", text("9")),
			bin(num(1), "and", num(0)), bin(num(0), "and", num(1)), bin(num(0), "or", num(0)), bin(text("x"), "and", num(1)), bin(num(1), "and", text("x")), bin(num(1), "and", null()),
			bin(null(), "and", num(1)), bin(null(), "or", null()), bin(text("x"), "or", text("1")), bin(null(), "or", num(0)), bin(num(0), "or", null()), bin(num(0), "or", col("s")),
			call("len", text("")), call("abs", num(0)), call("isnull", num(0)), call("isnull", text("")), call("isnull", col("s")), call("either", num(0), num(5)),
		},
		1: {
			num(1), bin(num(-7), "+", num(8)), bin(num(7), "%", num(2)), un("not", num(0)), un("not", null()), un("not", text("x")), un("not", text("")), un("not", col("b")), un("not", col("s")),
			bin(num(2), "=", col("a")), bin(num(1), "!=", num(2)), bin(num(1), "<", num(2)), bin(num(2), "<=", num(2)), bin(num(2), ">", num(1)), bin(num(2), ">=", num(2)),
			bin(text("x"), "=", text("x")), bin(text("10"), "<", text("9")), bin(text("x"), "<", text("xy")), bin(text(""), "<=", text("")), bin(col("s"), ">=", text("xx")), bin(text("a"), ">", text("B")),
			bin(num(5), "and", num(-1)), bin(num(0), "or", num(3)), bin(num(-3), "or", num(0)), bin(null(), "or", num(1)), bin(num(1), "or", null()), bin(text("x"), "or", num(1)),
			call("len", text("x")), call("abs", num(-1)), call("abs", num(1)), call("isnull", null()), call("isnull", col("b")), call("isnull", bin(num(1), "=", null())),
		},
		2: {col("a"), call("either", col("b"), col("a")), call("len", col("s")), call("abs", bin(num(0), "-", col("a"))), bin(num(6), "/", num(3)), call("if", num(0), num(1), col("a"))},
		3: {bin(col("a"), "+", num(1)), bin(num(7), "/", col("a")), bin(bin(num(9), "-", num(4)), "-", num(2)), call("if", num(-1), num(3), num(4)), call("either", num(3), num(4))},
		4: {call("if", null(), num(3), num(4)), call("if", text("x"), num(3), num(4)), call("if", col("s"), num(3), num(4)), call("either", null(), num(4)), call("len", text("a\"\\b"))},
		64: {
			call("len", wide(64)), call("len", call("cat", wide(63), text("x"))), call("len", call("cat", wide(64), text(""))), call("len", call("cat", text(""), wide(64))),
			call("len", call("cat", wide(32), wide(32))), call("len", call("cat", text("x"), wide(63))),
		},
		math.MaxInt:  {num(math.MaxInt), call("abs", num(math.MaxInt)), call("abs", num(-math.MaxInt)), un("-", num(-math.MaxInt))},
		math.MinInt:  {num(math.MinInt), bin(num(-math.MaxInt), "-", num(1)), bin(num(math.MinInt/2), "*", num(2))},
		-math.MaxInt: {un("-", num(math.MaxInt)), bin(num(math.MinInt), "+", num(1))},
	} {
		for _, e := range l {
			checkEval(t, e, columns(), row(), value.Of(want), api.OK)
		}
	}
	checkEval(t, call("if", bin(num(1), ">", num(1)), divides(), num(5)), columns(), row(), value.Of(5), api.OK)
}

// P4.3: values, written out: strings, and null.
func TestEvalOther(t *testing.T) {
	for want, l := range map[string][]expr.Expr{
		"":     {text(""), call("cat", text(""), text("")), call("either", text(""), text("x")), call("if", num(1), text(""), col("s"))},
		"xy":   {col("s"), text("xy"), call("cat", text("x"), text("y")), call("cat", col("s"), text("")), call("cat", text(""), col("s")), call("either", col("t"), col("s")), call("if", col("s"), text("x"), col("s"))},
		"\"\\": {text("\"\\"), call("cat", text("\""), text("\\"))},
	} {
		for _, e := range l {
			checkEval(t, e, columns(), row(), value.Text(want), api.OK)
		}
	}
	l := []expr.Expr{
		null(), col("b"), col("t"), un("-", null()), un("-", col("b")), call("len", null()), call("len", col("t")), call("abs", null()), call("abs", col("b")),
		call("cat", null(), null()), call("cat", null(), text("x")), call("cat", text("x"), null()), call("cat", col("t"), wide(64)), call("cat", wide(64), col("t")),
		call("either", null(), null()), call("either", col("b"), col("b")), call("either", null(), col("t")), call("if", num(1), null(), num(1)), call("if", num(0), text("x"), null()),
		call("if", null(), null(), null()), bin(null(), "/", num(0)), bin(null(), "%", num(0)), bin(num(math.MinInt), "*", null()),
	}
	for _, op := range strings.Fields("+ - * / % = != < <= > >=") {
		l = append(l, bin(null(), op, null()), bin(num(1), op, null()), bin(null(), op, num(1)), bin(col("a"), op, col("b")), bin(col("b"), op, col("a")), bin(col("b"), op, col("b")))
	}
	for _, op := range strings.Fields("= != < <= > >=") {
		l = append(l, bin(text("x"), op, null()), bin(null(), op, text("")), bin(col("s"), op, col("t")), bin(col("t"), op, col("t")))
	}
	for _, e := range l {
		checkEval(t, e, columns(), row(), value.Null(), api.OK)
	}
}

// P4.3: errors of the evaluation, each by the expression that has it and by what it is a part of.
func TestEvalErrors(t *testing.T) {
	for want, l := range map[api.Errno][]expr.Expr{
		api.ErrDivide: {
			divides(), bin(col("a"), "%", num(0)), bin(num(0), "/", num(0)), bin(num(math.MinInt), "%", num(0)), bin(num(1), "/", bin(num(1), "-", num(1))), un("-", divides()), un("not", divides()),
			call("len", dividesText()), call("abs", divides()), call("isnull", divides()), call("isnull", dividesText()), call("cat", null(), dividesText()), call("cat", dividesText(), null()),
			bin(null(), "+", divides()), bin(divides(), "+", null()), bin(null(), "=", divides()), bin(divides(), "<", null()), bin(divides(), "+", overflows()), bin(divides(), "<", overflows()),
			bin(divides(), "and", num(0)), bin(divides(), "or", num(1)), bin(num(1), "and", divides()), bin(num(0), "or", divides()), bin(null(), "or", divides()), bin(text("x"), "or", divides()),
			bin(divides(), "and", overflows()), call("either", divides(), num(1)), call("either", null(), divides()), call("either", col("t"), dividesText()), call("if", divides(), overflows(), overflows()),
			call("if", num(1), divides(), overflows()), call("if", num(0), overflows(), divides()), call("if", null(), overflows(), divides()), call("cat", dividesText(), overflowsText()), chain(20, divides()),
		},
		api.ErrOverflow: {
			overflows(), un("-", col("m")), call("abs", num(math.MinInt)), call("abs", col("m")), bin(num(math.MaxInt), "+", num(1)), bin(num(math.MinInt), "-", num(1)), bin(num(math.MinInt), "/", num(-1)),
			bin(num(1<<32), "*", num(1<<31)), bin(overflows(), "-", divides()), bin(overflows(), ">", divides()), call("cat", wide(64), text("x")), call("cat", text("x"), wide(64)), call("cat", wide(33), wide(32)),
			call("cat", overflowsText(), dividesText()), call("cat", overflowsText(), null()), call("cat", null(), overflowsText()), call("cat", wide(64), wide(64)), call("isnull", overflowsText()),
			call("if", overflows(), divides(), divides()), call("if", num(2), overflows(), divides()), call("if", text("x"), divides(), overflows()), call("either", overflows(), divides()), call("len", overflowsText()),
		},
	} {
		for _, e := range l {
			checkEval(t, e, append(columns(), schema.Column{Name: "m", Type: 1}), append(row(), value.Of(math.MinInt)), value.Null(), want)
		}
	}
}

// P4.3: arguments that must not be evaluated.
func TestEvalSkips(t *testing.T) {
	for _, bad := range []expr.Expr{divides(), overflows(), un("not", overflowsText())} {
		for _, v := range []expr.Expr{num(0), null(), text(""), text("1"), col("b"), col("s"), bin(num(1), ">", num(2)), bin(null(), "=", null())} {
			checkEval(t, bin(v, "and", bad), columns(), row(), value.Of(0), api.OK)
			checkEval(t, call("if", v, bad, num(7)), columns(), row(), value.Of(7), api.OK)
		}
		for _, v := range []expr.Expr{num(1), num(-1), num(math.MinInt), col("a"), un("not", null())} {
			checkEval(t, bin(v, "or", bad), columns(), row(), value.Of(1), api.OK)
			checkEval(t, call("if", v, num(7), bad), columns(), row(), value.Of(7), api.OK)
		}
		checkEval(t, call("either", num(0), bad), columns(), row(), value.Of(0), api.OK)
		checkEval(t, call("either", col("a"), bad), columns(), row(), value.Of(2), api.OK)
		checkEval(t, bin(num(0), "and", bin(bad, "or", bad)), columns(), row(), value.Of(0), api.OK)
		checkEval(t, bin(bin(num(0), "and", bad), "or", num(3)), columns(), row(), value.Of(1), api.OK)
	}
	checkEval(t, call("either", text(""), overflowsText()), columns(), row(), value.Text(""), api.OK)
	checkEval(t, call("if", num(0), overflowsText(), text("x")), columns(), row(), value.Text("x"), api.OK)
	// What is not evaluated must have a type all the same.
	checkEval(t, bin(num(0), "and", col("zz")), columns(), row(), value.Null(), api.ErrName)
	checkEval(t, call("either", num(1), text("x")), columns(), row(), value.Null(), api.ErrType)
	checkEval(t, call("if", num(1), num(1), un("-", text("x"))), columns(), row(), value.Null(), api.ErrType)
	checkEval(t, bin(num(1), "or", expr.Expr{}), columns(), row(), value.Null(), api.ErrForm)
}

// P4.3: columns are found by their names, and may be called as operators and functions are.
func TestEvalColumns(t *testing.T) {
	var s schema.Schema
	var l []value.Value
	for i, name := range strings.Fields("if len not and or null either cat abs isnull a b") {
		s = append(s, schema.Column{Name: name, Type: 1})
		l = append(l, value.Of(10+i))
	}
	for i, c := range s {
		checkEval(t, col(c.Name), s, l, value.Of(10+i), api.OK)
		checkEval(t, bin(col(c.Name), "-", col("if")), s, l, value.Of(i), api.OK)
		checkEval(t, call("if", un("not", col(c.Name)), num(0), un("-", col(c.Name))), s, l, value.Of(-10-i), api.OK)
	}
}

// P4.3: the errors of Type come first, then rows that do not fit, and then the evaluation.
func TestEvalOrder(t *testing.T) {
	misfits := [][]value.Value{
		nil, {}, row()[:3], append(row(), value.Null()), {value.Text("x"), value.Null(), value.Null(), value.Null()}, {value.Of(1), value.Of(1), value.Of(1), value.Of(1)},
		{{Kind: 3}, value.Null(), value.Null(), value.Null()}, {value.Null(), {Int: 1}, value.Null(), value.Null()}, {value.Null(), value.Null(), value.Text("\n"), value.Null()},
		{value.Null(), value.Null(), value.Null(), value.Text(strings.Repeat("x", 65))},
	}
	for _, r := range append(misfits, row()) {
		for errno, s := range wrongSchemas() {
			checkEval(t, divides(), s, r, value.Null(), errno)
			checkEval(t, broad(257), s, r, value.Null(), errno)
		}
		for _, f := range faults() {
			if f.errno != api.OK {
				checkEval(t, f.e, columns(), r, value.Null(), f.errno)
				checkEval(t, bin(divides(), "+", f.e), columns(), r, value.Null(), f.errno)
				checkEval(t, bin(num(0), "and", f.e), columns(), r, value.Null(), f.errno)
			}
		}
		for _, e := range malformed() {
			checkEval(t, e, columns(), r, value.Null(), api.ErrForm)
		}
		checkEval(t, broad(257), columns(), r, value.Null(), api.ErrMany)
	}
	for _, r := range misfits {
		for _, e := range []expr.Expr{num(1), col("a"), null(), divides(), overflows(), broad(256)} {
			checkEval(t, e, columns(), r, value.Null(), api.ErrType)
		}
	}
	checkEval(t, broad(256), columns(), row(), value.Of(0), api.OK)
	checkEval(t, chain(api.MaxDepth-1, num(1)), columns(), row(), value.Of(0), api.OK)
	checkEval(t, chain(api.MaxDepth-2, num(1)), columns(), row(), value.Of(1), api.OK)
}

// checkReckoned holds Eval of e against the reckoning, and its type against its value; it returns the error.
func checkReckoned(t *testing.T, e expr.Expr, s schema.Schema, row []value.Value) api.Errno {
	t.Helper()
	cells := map[string]value.Value{}
	for i, c := range s {
		cells[c.Name] = row[i]
	}
	kind, errno := reckonedType(e, s, 1)
	if e.Size() > 256 {
		errno = api.ErrMany
	}
	var want value.Value
	if errno == api.OK {
		want, errno = reckonedValue(e, cells)
	}
	checkEval(t, e, s, row, want, errno)
	if got, _ := e.Eval(s, row); !got.Right() || got.Kind != 0 && got.Kind != kind {
		t.Errorf("the value of %v, which has the type %d, is %#v", e, kind, got)
	}
	return errno
}

// P4.3: each operator and function with values of all kinds, the edges of int and of MaxText among them.
func TestEvalAll(t *testing.T) {
	leaves := []expr.Expr{
		null(), num(0), num(1), num(-1), num(7), num(math.MaxInt), num(math.MinInt), col("a"), col("b"), divides(), overflows(),
		text(""), text("x"), wide(32), wide(33), wide(64), col("s"), col("t"), dividesText(), overflowsText(),
	}
	counts := map[api.Errno]int{}
	for _, h := range shapes {
		forAll(leaves, len(signatures[h])-1, func(args []expr.Expr) { counts[checkReckoned(t, h.with(args...), columns(), row())]++ })
	}
	if len(counts) != 4 || counts[api.OK] < 1000 || counts[api.ErrType] < 1000 || counts[api.ErrDivide] < 300 || counts[api.ErrOverflow] < 300 {
		t.Errorf("the errors are %v", counts)
	}
}

// P4.3: some thousands of expressions against an independent reckoning, for some rows each.
func TestEvalRandom(t *testing.T) {
	rows := [][]value.Value{
		row(), {value.Null(), value.Null(), value.Null(), value.Null()}, {value.Of(0), value.Of(-5), value.Text(""), value.Text("z")},
		{value.Of(math.MinInt), value.Of(3), value.Text(strings.Repeat("w", 64)), value.Text("\"")},
	}
	r := rand.New(rand.NewSource(5))
	counts := map[api.Errno]int{}
	for i := range 20000 {
		e := anyExpr(r, 1+i%6, 200, 1+i%2)
		for _, row := range rows {
			counts[checkReckoned(t, e, columns(), row)]++
		}
	}
	for _, errno := range []api.Errno{api.OK, api.ErrDivide, api.ErrOverflow, api.ErrType, api.ErrForm} {
		if counts[errno] < 100 {
			t.Errorf("the errors are %v", counts)
		}
	}
}
