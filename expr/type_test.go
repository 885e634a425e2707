package expr_test

import (
	"math/rand"
	"slices"
	"strings"
	"testing"

	"bywash/api"
	"bywash/expr"
	"bywash/schema"
	"bywash/value"
)

// checkType holds Type of e against what is wanted; with an error, the type is 0.
func checkType(t *testing.T, e expr.Expr, s schema.Schema, want int, errno api.Errno) {
	t.Helper()
	if got, got2 := e.Type(s); got != want || got2 != errno {
		t.Errorf("Type of %v for %v: %d, %d, want %d, %d", e, s, got, got2, want, errno)
	}
}

// sound reports whether the form of e is valid, and returns the signature of e if it is an operation or a call.
func sound(e expr.Expr) (string, bool) {
	switch e.Kind {
	case 1:
		return "", e.Op == "" && len(e.Args) == 0 && e.Value == value.Value{}
	case 2:
		return "", e.Op == "" && e.Name == "" && len(e.Args) == 0 && e.Value.Right()
	}
	sig, ok := signatures[shape{e.Kind, e.Op, e.Name}]
	return sig, ok && len(e.Args) == len(sig)-1 && e.Value == value.Value{}
}

// reckonedType is what the document asks of the type of e, at this depth.
func reckonedType(e expr.Expr, s schema.Schema, depth int) (int, api.Errno) {
	if depth > 32 {
		return 0, api.ErrDeep
	}
	sig, ok := sound(e)
	if !ok {
		return 0, api.ErrForm
	}
	if e.Kind == 2 {
		return map[int]int{0: 0, 1: 1, 2: 2}[e.Value.Kind], api.OK
	}
	if e.Kind == 1 {
		for _, c := range s {
			if c.Name == e.Name {
				return c.Type, api.OK
			}
		}
		return 0, api.ErrName
	}
	var types []int
	for _, a := range e.Args {
		n, errno := reckonedType(a, s, depth+1)
		if errno != api.OK {
			return 0, errno
		}
		types = append(types, n)
	}
	return reckonedFit(sig, types)
}

// reckonedFit returns the type that a signature gives for these types, or ErrType.
func reckonedFit(sig string, types []int) (int, api.Errno) {
	same := map[int]bool{}
	for i, n := range types {
		if sig[i] == 'i' && n == 2 || sig[i] == 't' && n == 1 {
			return 0, api.ErrType
		}
		if sig[i] == 's' {
			same[n] = true
		}
	}
	if same[1] && same[2] {
		return 0, api.ErrType
	}
	switch sig[len(sig)-1] {
	case 'i':
		return 1, api.OK
	case 't':
		return 2, api.OK
	}
	if same[1] {
		return 1, api.OK
	}
	if same[2] {
		return 2, api.OK
	}
	return 0, api.OK
}

// typed lists expressions for columns, by their types.
func typed() [3][]expr.Expr {
	any := []expr.Expr{
		null(), call("either", null(), null()), call("if", num(1), null(), null()), call("if", text("x"), null(), null()), call("if", null(), null(), null()),
		call("either", call("either", null(), null()), call("if", col("a"), null(), null())),
	}
	ints := []expr.Expr{
		num(0), num(-7), col("a"), col("b"), un("-", num(1)), un("-", null()), un("-", col("a")), un("not", num(1)), un("not", text("x")), un("not", null()), un("not", col("s")),
		bin(num(1), "+", num(2)), bin(null(), "-", num(2)), bin(num(1), "*", null()), bin(null(), "/", null()), bin(col("a"), "%", num(0)),
		bin(num(1), "=", num(2)), bin(text("x"), "!=", col("s")), bin(null(), "<", text("x")), bin(num(1), "<=", null()), bin(null(), ">", null()), bin(col("s"), ">=", col("t")),
		bin(text("x"), "and", num(1)), bin(null(), "and", null()), bin(num(1), "or", text("x")), bin(col("s"), "or", col("t")),
		call("len", text("x")), call("len", null()), call("len", col("s")), call("abs", num(1)), call("abs", null()), call("isnull", num(1)), call("isnull", text("x")), call("isnull", null()),
		call("either", num(1), num(2)), call("either", null(), num(2)), call("either", num(1), null()), call("either", call("either", null(), null()), num(2)),
		call("if", text("x"), num(1), num(2)), call("if", null(), null(), num(2)), call("if", num(0), num(1), null()), call("if", null(), call("if", num(1), null(), null()), col("a")),
	}
	texts := []expr.Expr{
		text(""), text("x"), col("s"), col("t"), call("cat", text("x"), text("y")), call("cat", null(), text("y")), call("cat", text("x"), null()), call("cat", null(), null()),
		call("either", text("x"), text("y")), call("either", null(), text("y")), call("either", text("x"), null()), call("either", col("s"), call("cat", col("s"), col("t"))),
		call("if", num(1), text("x"), text("y")), call("if", null(), null(), text("y")), call("if", col("t"), text("x"), null()),
	}
	return [3][]expr.Expr{any, ints, texts}
}

// P4.2: types, written out.
func TestType(t *testing.T) {
	for want, l := range typed() {
		for _, e := range l {
			checkType(t, e, columns(), want, api.OK)
		}
	}
	checkType(t, col("z"), schema.Schema{{Name: "z", Type: 1}}, 1, api.OK)
	checkType(t, col("len"), schema.Schema{{Name: "len", Type: 2}}, 2, api.OK)
	checkType(t, bin(num(1), "+", col("if")), schema.Schema{{Name: "not", Type: 2}, {Name: "if", Type: 1}}, 1, api.OK)
	for _, e := range []expr.Expr{
		un("-", text("x")), un("-", col("s")), bin(text("x"), "+", num(1)), bin(num(1), "+", text("x")), bin(text("x"), "+", text("x")), bin(null(), "-", text("")),
		bin(col("s"), "*", null()), bin(num(1), "/", col("t")), bin(text("5"), "%", num(5)), bin(num(1), "=", text("1")), bin(col("s"), "!=", col("a")),
		bin(num(1), "<", text("x")), bin(text("x"), "<=", num(1)), bin(num(1), ">", col("s")), bin(col("t"), ">=", bin(num(1), "+", num(1))),
		call("len", num(1)), call("len", un("not", null())), call("abs", text("x")), call("abs", call("cat", null(), null())), call("cat", num(1), text("x")),
		call("cat", text("x"), num(1)), call("cat", null(), num(1)), call("either", num(1), text("x")), call("either", text("x"), num(1)),
		call("if", num(1), num(1), text("x")), call("if", text("x"), text("x"), num(1)), call("if", num(1), call("len", null()), call("cat", null(), null())),
	} {
		checkType(t, e, columns(), 0, api.ErrType)
	}
}

// P4.2: each operator and function with Args of all types, alone and with one error among them.
func TestTypeAll(t *testing.T) {
	l := typed()
	leaves := []expr.Expr{null(), l[0][1], l[0][2], num(3), col("a"), l[1][20], text("x"), col("s"), l[2][4], col("zz"), {}, un("-", text("x"))}
	counts := map[api.Errno]int{}
	for _, h := range shapes {
		for n := range 4 {
			forAll(leaves, n, func(args []expr.Expr) {
				e := h.with(args...)
				want, errno := reckonedType(e, columns(), 1)
				checkType(t, e, columns(), want, errno)
				if errno == api.OK {
					want = 1
				}
				checkType(t, un("not", e), columns(), want, errno)
				counts[errno]++
			})
		}
	}
	if len(counts) != 4 || counts[api.OK] < 1000 || counts[api.ErrType] < 300 || counts[api.ErrName] < 300 || counts[api.ErrForm] < 300 {
		t.Errorf("the errors are %v", counts)
	}
}

// forAll calls f with each list of n of these expressions.
func forAll(l []expr.Expr, n int, f func(args []expr.Expr)) {
	at := make([]int, n)
	for {
		var args []expr.Expr
		for _, i := range at {
			args = append(args, l[i])
		}
		f(args)
		k := 0
		for k < n && at[k] == len(l)-1 {
			at[k] = 0
			k++
		}
		if k == n {
			return
		}
		at[k]++
	}
}

// P4.2: each operator and function with too few and too many Args, and columns and constants with any.
func TestTypeCount(t *testing.T) {
	for h, sig := range signatures {
		for n := range 6 {
			args := make([]expr.Expr, n)
			for i := range args {
				args[i] = null()
			}
			e, errno := h.with(args...), api.ErrForm
			if n == len(sig)-1 {
				errno = api.OK
			}
			if _, got := e.Type(columns()); got != errno {
				t.Errorf("Type of %v with %d Args: %d", h, n, got)
			}
		}
	}
	for n := 1; n < 4; n++ {
		args := make([]expr.Expr, n)
		for i := range args {
			args[i] = null()
		}
		checkType(t, expr.Expr{Kind: 1, Name: "a", Args: args}, columns(), 0, api.ErrForm)
		checkType(t, expr.Expr{Kind: 2, Value: value.Of(1), Args: args}, columns(), 0, api.ErrForm)
	}
	checkType(t, expr.Expr{Kind: 1, Name: "a", Args: []expr.Expr{}}, columns(), 1, api.OK)
	checkType(t, expr.Expr{Kind: 2, Value: value.Text(""), Args: []expr.Expr{}}, columns(), 2, api.OK)
}

// P4.2: names, operators and values that the Kind does not have, at the top and within.
func TestTypeForm(t *testing.T) {
	for _, e := range malformed() {
		checkType(t, e, columns(), 0, api.ErrForm)
		checkType(t, un("not", e), columns(), 0, api.ErrForm)
		checkType(t, call("if", num(1), num(1), e), columns(), 0, api.ErrForm)
	}
	for _, h := range shapes {
		for kind := -1; kind < 8; kind++ {
			e := h.with(make([]expr.Expr, len(signatures[h])-1)...)
			for i := range e.Args {
				e.Args[i] = null()
			}
			e.Kind = kind
			want, errno := reckonedType(e, columns(), 1)
			checkType(t, e, columns(), want, errno)
			if (kind == h.kind) != (errno == api.OK) {
				t.Errorf("the Kind %d of %v: %d", kind, h, errno)
			}
		}
	}
}

// P4.2: columns that the schema does not have; their names need not be valid.
func TestTypeName(t *testing.T) {
	for _, name := range []string{"", "c", "A", "a ", " a", "aa", "\x00", "null", "-", strings.Repeat("a", 1<<16)} {
		checkType(t, col(name), columns(), 0, api.ErrName)
		checkType(t, bin(num(1), "+", col(name)), columns(), 0, api.ErrName)
		checkType(t, un("-", bin(col(name), "+", text("x"))), columns(), 0, api.ErrName)
		checkType(t, expr.Expr{Kind: 1, Name: name, Op: "x"}, columns(), 0, api.ErrForm)
	}
	checkType(t, col("b"), columns()[:1], 0, api.ErrName)
}

// P4.2: 256 expressions, and one more.
func TestTypeMany(t *testing.T) {
	for n := 1; n < 600; n++ {
		errno, kind, wide := api.OK, 1, api.ErrForm
		if n > 256 {
			errno, kind, wide = api.ErrMany, 0, api.ErrMany
		}
		checkType(t, broad(n), columns(), kind, errno)
		args := slices.Repeat([]expr.Expr{num(1)}, n-1)
		if n != 3 {
			checkType(t, shape{4, "+", ""}.with(args...), columns(), 0, wide)
		}
		if n != 2 {
			checkType(t, shape{5, "", "abs"}.with(args...), columns(), 0, wide)
		}
	}
	checkType(t, expr.Expr{Args: make([]expr.Expr, 255)}, columns(), 0, api.ErrForm)
	checkType(t, expr.Expr{Args: make([]expr.Expr, 256)}, columns(), 0, api.ErrMany)
	checkType(t, expr.Expr{Kind: 1, Name: "a", Args: make([]expr.Expr, 256)}, columns(), 0, api.ErrMany)
	checkType(t, bin(broad(127), "and", broad(128)), columns(), 1, api.OK)
	checkType(t, bin(broad(128), "and", broad(128)), columns(), 0, api.ErrMany)
	checkType(t, bin(broad(1), "and", broad(255)), columns(), 0, api.ErrMany)
	checkType(t, bin(broad(255), "and", broad(1)), columns(), 0, api.ErrMany)
}

// P4.2: a depth of MaxDepth, and one more.
func TestTypeDeep(t *testing.T) {
	for n := range 300 {
		errno, kind := api.OK, 1
		if n+1 > api.MaxDepth {
			errno, kind = api.ErrDeep, 0
		}
		if n+1 > 256 {
			errno = api.ErrMany
		}
		for _, x := range []expr.Expr{num(1), col("a"), null()} {
			if e := chain(n, x); n > 0 {
				checkType(t, e, columns(), kind, errno)
			}
		}
	}
	for h, sig := range signatures {
		for i := range len(sig) - 1 {
			args := slices.Repeat([]expr.Expr{null()}, len(sig)-1)
			for n := 1; n < 40; n++ {
				_, errno := h.with(args...).Type(columns())
				if errno != api.OK && n < api.MaxDepth || errno != api.ErrDeep && n >= api.MaxDepth {
					t.Errorf("Type of %v whose argument %d has the depth %d: %d", h, i, n, errno)
				}
				args[i] = call("either", null(), args[i])
			}
		}
	}
	e := text("x")
	for n := 1; n < 40; n++ {
		if n <= api.MaxDepth {
			checkType(t, e, columns(), 2, api.OK)
		} else {
			checkType(t, e, columns(), 0, api.ErrDeep)
		}
		e = call("cat", text("x"), e)
	}
}

// fault is an expression with one error.
type fault struct {
	e     expr.Expr
	errno api.Errno
}

// faults lists expressions with one error each, and some with none.
func faults() []fault {
	return []fault{
		{chain(api.MaxDepth+1, num(1)), api.ErrDeep}, {expr.Expr{Kind: 3, Op: "-"}, api.ErrForm}, {col("zz"), api.ErrName},
		{un("-", text("x")), api.ErrType}, {bin(num(1), "=", text("x")), api.ErrType}, {null(), api.OK}, {num(1), api.OK},
	}
}

// P4.2: among several errors, the schema's, then ErrMany, then the first one of the expression.
func TestTypeOrder(t *testing.T) {
	all := expr.Expr{Kind: 9, Args: []expr.Expr{chain(300, expr.Expr{}), col("zz"), un("-", text("x"))}}
	for errno, s := range wrongSchemas() {
		for _, e := range []expr.Expr{num(1), col("a"), col("zz"), {}, un("-", text("x")), chain(40, num(1)), broad(257), all} {
			checkType(t, e, s, 0, errno)
		}
	}
	checkType(t, num(1), make(schema.Schema, api.MaxColumns+1), 0, api.ErrMany)
	checkType(t, all, columns(), 0, api.ErrMany)
	checkType(t, call("f", broad(256), col("zz")), columns(), 0, api.ErrMany)
	checkType(t, bin(text("x"), "+", broad(255)), columns(), 0, api.ErrMany)
	for _, a := range faults() {
		for _, b := range faults() {
			first := a.errno
			if first == api.OK {
				first = b.errno
			}
			for _, op := range []string{"+", "<", "and"} {
				if _, errno := bin(a.e, op, b.e).Type(columns()); errno != first {
					t.Errorf("Type of the errors %d and %d: %d", a.errno, b.errno, errno)
				}
			}
			for _, c := range faults() {
				errno := first
				if errno == api.OK {
					errno = c.errno
				}
				if _, got := call("if", a.e, b.e, c.e).Type(columns()); got != errno {
					t.Errorf("Type of the errors %d, %d and %d: %d", a.errno, b.errno, c.errno, got)
				}
			}
			// What is wrong with the types of the Args comes after the Args, and what is wrong with the form before them.
			if a.errno != api.OK {
				checkType(t, bin(a.e, "+", text("x")), columns(), 0, a.errno)
				checkType(t, bin(text("x"), "+", a.e), columns(), 0, a.errno)
				checkType(t, call("if", text("x"), text("y"), bin(num(1), "+", a.e)), columns(), 0, a.errno)
			}
			checkType(t, call("either", a.e), columns(), 0, api.ErrForm)
			checkType(t, expr.Expr{Kind: 1, Name: "zz", Args: []expr.Expr{a.e}}, columns(), 0, api.ErrForm)
			checkType(t, expr.Expr{Kind: 4, Op: "?", Args: []expr.Expr{a.e, b.e}}, columns(), 0, api.ErrForm)
		}
	}
}

// P4.2: depth comes before form, form before what is deeper.
func TestTypeDeepOrder(t *testing.T) {
	bad := expr.Expr{Kind: 3, Op: "?", Args: []expr.Expr{num(1)}}
	for _, c := range []struct {
		n     int
		x     expr.Expr
		errno api.Errno
	}{
		{api.MaxDepth, bad, api.ErrDeep}, {api.MaxDepth, col("zz"), api.ErrDeep}, {api.MaxDepth, un("-", text("x")), api.ErrDeep}, {api.MaxDepth, expr.Expr{}, api.ErrDeep},
		{api.MaxDepth - 1, bad, api.ErrForm}, {api.MaxDepth - 1, expr.Expr{}, api.ErrForm}, {api.MaxDepth - 1, col("zz"), api.ErrName},
		{api.MaxDepth - 1, un("-", text("x")), api.ErrDeep}, {api.MaxDepth - 1, bin(col("zz"), "+", text("x")), api.ErrDeep},
		{api.MaxDepth - 2, un("-", text("x")), api.ErrType}, {api.MaxDepth - 2, bin(num(1), "+", col("zz")), api.ErrName}, {api.MaxDepth - 2, bin(text("x"), "+", bad), api.ErrForm},
		{api.MaxDepth - 2, bin(un("-", num(1)), "+", bad), api.ErrDeep}, {api.MaxDepth - 2, bin(bad, "+", un("-", num(1))), api.ErrForm},
		{api.MaxDepth - 2, bin(col("zz"), "+", un("-", num(1))), api.ErrName}, {api.MaxDepth - 2, bin(text("x"), "+", un("-", num(1))), api.ErrDeep},
	} {
		checkType(t, chain(c.n, c.x), columns(), 0, c.errno)
	}
}

// anyExpr returns an expression of at most depth levels that has its errors with the chance of one in odds for each part of it.
func anyExpr(r *rand.Rand, depth, odds, want int) expr.Expr {
	if r.Intn(odds) == 0 {
		return wrong(r, depth, want)
	}
	if depth <= 1 || r.Intn(5) == 0 {
		return leaf(r, want)
	}
	for {
		h := shapes[r.Intn(len(shapes))]
		sig := signatures[h]
		gives := sig[len(sig)-1]
		if gives == 'i' && want == 2 || gives == 't' && want == 1 {
			continue
		}
		inner := 1 + r.Intn(2)
		if gives == 's' {
			inner = want
		}
		var args []expr.Expr
		for i := range len(sig) - 1 {
			n := map[byte]int{'i': 1, 't': 2, 's': inner, 'x': 1 + r.Intn(2)}[sig[i]]
			args = append(args, anyExpr(r, depth-1, odds, n))
		}
		return h.with(args...)
	}
}

// leaf returns a column or a constant of a type, or null.
func leaf(r *rand.Rand, want int) expr.Expr {
	if r.Intn(6) == 0 {
		return null()
	}
	if want == 2 {
		l := []expr.Expr{text(""), text("x"), text("a\"b"), text(strings.Repeat("y", 33)), text(strings.Repeat("z", 64)), col("s"), col("t"), col("s")}
		return l[r.Intn(len(l))]
	}
	l := []expr.Expr{num(0), num(1), num(-1), num(2), num(7), num(-1 << 63), num(1<<63 - 1), col("a"), col("b"), col("a")}
	return l[r.Intn(len(l))]
}

// wrong returns an expression that has an error, or does not have the type that is wanted.
func wrong(r *rand.Rand, depth, want int) expr.Expr {
	e := anyExpr(r, max(1, depth-1), 1<<20, want)
	switch r.Intn(9) {
	case 0:
		e.Kind += 1 - 2*r.Intn(2)
	case 1:
		e.Op += "-"
	case 2:
		e.Name = "zz"
	case 3:
		e.Value = value.Value{Kind: r.Intn(4), Int: r.Intn(2)}
	case 4:
		e.Args = append(e.Args, num(1))
	case 5:
		e.Args = e.Args[:max(0, len(e.Args)-1)]
	case 6:
		return col("zz")
	case 7:
		return anyExpr(r, depth, 1<<20, 3-want)
	case 8:
		return chain(20+r.Intn(20), e)
	}
	return e
}

// P4.2: some thousands of expressions against an independent reckoning.
func TestTypeRandom(t *testing.T) {
	r := rand.New(rand.NewSource(4))
	counts := map[api.Errno]int{}
	for i := range 30000 {
		e := anyExpr(r, 1+i%7, 1+i%50, 1+i%2)
		want, errno := reckonedType(e, columns(), 1)
		if e.Size() > 256 {
			want, errno = 0, api.ErrMany
		}
		checkType(t, e, columns(), want, errno)
		counts[errno]++
	}
	for _, errno := range []api.Errno{api.OK, api.ErrMany, api.ErrDeep, api.ErrForm, api.ErrName, api.ErrType} {
		if counts[errno] < 10 {
			t.Errorf("the errors are %v", counts)
		}
	}
}
