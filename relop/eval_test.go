package relop_test

import (
	"math"
	"math/big"
	"math/rand"
	"slices"
	"strconv"
	"strings"
	"testing"

	"bywash/api"
	"bywash/expr"
	"bywash/relop"
	"bywash/schema"
	"bywash/table"
	"bywash/value"
)

// checkEval holds Eval of p against the table that is wanted, and its schema against Type.
func checkEval(t *testing.T, p relop.Plan, in []relop.Source, want string) {
	t.Helper()
	got, e := p.Eval(in)
	if e != api.OK || got.Show() != tab(want).Show() {
		t.Errorf("Eval of %v: %d\n%s, want\n%s", p, e, got.Show(), tab(want).Show())
	}
	if s, e := p.Type(in); e != api.OK || !s.Equal(got.Schema) {
		t.Errorf("Type of %v: %v, %d, and the table has %v", p, s, e, got.Schema)
	}
}

// source returns sources of which the first one is q.
func source(s string) []relop.Source {
	return append([]relop.Source{{Name: "q", Table: tab(s)}}, sources()...)
}

func divides() expr.Expr   { return bin(num(1), "/", num(0)) }
func overflows() expr.Expr { return un("-", num(math.MinInt)) }

// P5.3: scans, where, and keep.
func TestEval(t *testing.T) {
	const x = `(a int, b int, s text): null, 1, "u"; 1, null, "u"; 1, 2, "v"; 1, 2, "v"; 2, 2, null; 3, 0, "w"`
	in := sources()
	checkEval(t, scan("x"), in, x)
	checkEval(t, scan("e"), in, "(a int, s text)")
	checkEval(t, scan("good"), in, "(a int): 7")
	checkEval(t, scan(""), in, "(nameless int): 5")
	checkEval(t, where(scan("x"), num(1)), in, x)
	checkEval(t, where(scan("x"), num(-7)), in, x)
	for _, c := range []expr.Expr{num(0), null(), text(""), text("1"), col("s"), un("not", num(1)), bin(null(), "=", null())} {
		checkEval(t, where(scan("x"), c), in, "(a int, b int, s text)")
	}
	checkEval(t, where(scan("x"), col("b")), in, `(a int, b int, s text): null, 1, "u"; 1, 2, "v"; 1, 2, "v"; 2, 2, null`)
	checkEval(t, where(scan("x"), bin(col("a"), "<", num(2))), in, `(a int, b int, s text): 1, null, "u"; 1, 2, "v"; 1, 2, "v"`)
	checkEval(t, where(scan("x"), un("not", col("a"))), in, `(a int, b int, s text): null, 1, "u"`)
	checkEval(t, where(scan("x"), call("isnull", col("s"))), in, `(a int, b int, s text): 2, 2, null`)
	checkEval(t, where(scan("e"), divides()), in, "(a int, s text)")
	checkEval(t, keep(scan("x"), "c", bin(num(0), "-", col("a"))), in, "(c int): null; -3; -2; -1; -1; -1")
	checkEval(t, keep(scan("x"), "s n", col("s"), num(7)), in, `(s text, n int): null, 7; "u", 7; "u", 7; "v", 7; "v", 7; "w", 7`)
	checkEval(t, keep(scan("x"), "c d c2", col("b"), call("either", col("s"), text("-")), col("b")), in, `(c int, d text, c2 int): null, "u", null; 0, "w", 0; 1, "u", 1; 2, "-", 2; 2, "v", 2; 2, "v", 2`)
	checkEval(t, keep(scan("x"), "c", num(1)), in, "(c int): 1; 1; 1; 1; 1; 1")
	checkEval(t, keep(scan("e"), "c d", divides(), overflows()), in, "(c int, d int)")
	checkEval(t, keep(where(scan("x"), bin(col("b"), "!=", num(0))), "c", bin(num(6), "/", col("b"))), in, "(c int): 3; 3; 3; 6")
}

// P5.3: joins, with null, several pairs, and rows that are there more than once.
func TestEvalJoin(t *testing.T) {
	in := append(sources(), relop.Source{Name: "m", Table: tab(`(k int, v text): null, null; 1, null; 1, "u"; 1, "u"; 1, "v"; 2, null; 2, "v"`)})
	const xy = "(a int, b int, s text, k int, v text)"
	checkEval(t, join(scan("x"), scan("y"), "a=k"), in, xy+`: 1, null, "u", 1, "p"; 1, null, "u", 1, "q"; 1, null, "u", 1, "q"; `+
		`1, 2, "v", 1, "p"; 1, 2, "v", 1, "p"; 1, 2, "v", 1, "q"; 1, 2, "v", 1, "q"; 1, 2, "v", 1, "q"; 1, 2, "v", 1, "q"; 3, 0, "w", 3, null`)
	checkEval(t, left(scan("x"), scan("y"), "a=k"), in, xy+`: null, 1, "u", null, null; 1, null, "u", 1, "p"; 1, null, "u", 1, "q"; 1, null, "u", 1, "q"; `+
		`1, 2, "v", 1, "p"; 1, 2, "v", 1, "p"; 1, 2, "v", 1, "q"; 1, 2, "v", 1, "q"; 1, 2, "v", 1, "q"; 1, 2, "v", 1, "q"; 2, 2, null, null, null; 3, 0, "w", 3, null`)
	checkEval(t, join(scan("x"), scan("m"), "a=k s=v"), in, xy+`: 1, null, "u", 1, "u"; 1, null, "u", 1, "u"; 1, 2, "v", 1, "v"; 1, 2, "v", 1, "v"`)
	checkEval(t, join(scan("x"), scan("m"), "s=v a=k a=k s=v"), in, xy+`: 1, null, "u", 1, "u"; 1, null, "u", 1, "u"; 1, 2, "v", 1, "v"; 1, 2, "v", 1, "v"`)
	checkEval(t, join(scan("x"), scan("m"), "a=k a=k s=v"), in, xy+`: 1, null, "u", 1, "u"; 1, null, "u", 1, "u"; 1, 2, "v", 1, "v"; 1, 2, "v", 1, "v"`)
	checkEval(t, left(scan("x"), scan("m"), "a=k s=v"), in, xy+`: null, 1, "u", null, null; 1, null, "u", 1, "u"; 1, null, "u", 1, "u"; 1, 2, "v", 1, "v"; 1, 2, "v", 1, "v"; 2, 2, null, null, null; 3, 0, "w", null, null`)
	checkEval(t, join(scan("x"), scan("m"), "a=k b=k"), in, xy+`: 2, 2, null, 2, null; 2, 2, null, 2, "v"`)
	checkEval(t, join(scan("y"), scan("x"), "v=s"), in, `(k int, v text, a int, b int, s text): 4, "u", null, 1, "u"; 4, "u", 1, null, "u"`)
}

// P5.3: joins with empty tables, and with nothing but null.
func TestEvalJoinEmpty(t *testing.T) {
	in := append(source("(k int, v text)"), relop.Source{Name: "nulls", Table: tab("(n int, o text): null, null; null, null")})
	checkEval(t, join(scan("x"), scan("q"), "a=k"), in, "(a int, b int, s text, k int, v text)")
	checkEval(t, join(scan("q"), scan("x"), "k=a"), in, "(k int, v text, a int, b int, s text)")
	checkEval(t, left(scan("q"), scan("x"), "k=a"), in, "(k int, v text, a int, b int, s text)")
	checkEval(t, left(scan("y"), scan("e"), "k=a"), in, `(k int, v text, a int, s text): null, "n", null, null; 1, "p", null, null; 1, "q", null, null; 1, "q", null, null; 3, null, null, null; 4, "u", null, null`)
	checkEval(t, join(scan("nulls"), keep(scan("nulls"), "p q", col("n"), col("o")), "n=p"), in, "(n int, o text, p int, q text)")
	checkEval(t, left(scan("nulls"), keep(scan("nulls"), "p q", col("n"), col("o")), "n=p o=q"), in, "(n int, o text, p int, q text): null, null, null, null; null, null, null, null")
}

// tricky lists tables whose rows differ, but may look the same if their values are put together.
var tricky = []string{
	`(s text, t text): null, null; null, ""; null, "null"; "", null; "", ""; "\",\"", ""; "\"\"", ""; ",", ""; ",\"", ""; "1", ","; "1,", ""; "\\", "\\"; "\\\"", ""; "a", "b"; "ab", ""; "n", "ull"; "null", null; "null", "null"`,
	`(s int, t int): null, null; null, 0; 0, null; 1, 23; 12, 3; 123, null; 1, -23; 1, 2; 12, null; -1, -1; -1, 1; 0, 0; 1, 10; 11, 0; 110, 1; 1, 101`,
	`(s int, t text): null, null; null, "null"; 1, "2"; 12, ""; 1, "2\""; 1, ",2"; 1, null; null, "1"; 0, "0"`,
	`(s text, t int): null, null; "null", null; "1", 2; "12", null; "1,", 2; "\"1", 2; "1\"", 2; "", 12; "", 2`,
}

// P5.3: values are held against each other as values, not by how they look.
func TestEvalTricky(t *testing.T) {
	for _, s := range tricky {
		in := source(s)
		q := scan("q")
		rows := in[0].Table.Rows
		whole := 0
		for _, r := range rows {
			if r[0].Kind != 0 && r[1].Kind != 0 {
				whole++
			}
		}
		got, e := group(union(q, q), "s t", "count()=n").Eval(in)
		if e != api.OK || len(got.Rows) != len(rows) {
			t.Fatalf("%d groups of %d: %d", len(got.Rows), len(rows), e)
		}
		for i, r := range got.Rows {
			if !slices.Equal(r, append(slices.Clone(rows[i]), value.Of(2))) {
				t.Errorf("the group %d is %v", i, r)
			}
		}
		got, e = join(q, keep(q, "u v", col("s"), col("t")), "s=u t=v").Eval(in)
		if e != api.OK || len(got.Rows) != whole {
			t.Errorf("a join of %d rows with themselves: %d, %d, want %d", len(rows), len(got.Rows), e, whole)
		}
		for _, r := range got.Rows {
			if r[0] != r[2] || r[1] != r[3] || r[0].Kind == 0 || r[1].Kind == 0 {
				t.Errorf("a row of the join: %v", r)
			}
		}
		got, e = distinct(union(q, q)).Eval(in)
		if e != api.OK || !got.Equal(in[0].Table) {
			t.Errorf("Eval of distinct: %v, %d", got, e)
		}
	}
}

// P5.3: groups and aggregates, with null, and rows that are there more than once.
func TestEvalGroup(t *testing.T) {
	in := source(`(g text, n int, s text): null, 1, "b"; null, 3, "a"; "", null, null; "p", null, "z"; "p", -4, null; "p", 5, "y"; "p", 5, "y"; "null", 0, ""`)
	q := scan("q")
	checkEval(t, group(q, "g", ""), in, `(g text): null; ""; "null"; "p"`)
	checkEval(t, group(q, "g", "count()=c count(n)=d count(s)=e"), in, `(g text, c int, d int, e int): null, 2, 2, 2; "", 1, 0, 0; "null", 1, 1, 1; "p", 4, 3, 3`)
	checkEval(t, group(q, "g", "sum(n)=c min(n)=d max(n)=e"), in, `(g text, c int, d int, e int): null, 4, 1, 3; "", null, null, null; "null", 0, 0, 0; "p", 6, -4, 5`)
	checkEval(t, group(q, "g", "min(s)=c max(s)=d"), in, `(g text, c text, d text): null, "a", "b"; "", null, null; "null", "", ""; "p", "y", "z"`)
	checkEval(t, group(q, "g", "max(g)=c count(g)=d"), in, `(g text, c text, d int): null, null, 0; "", "", 1; "null", "null", 1; "p", "p", 4`)
	checkEval(t, group(q, "n", "count()=c"), in, "(n int, c int): null, 2; -4, 1; 0, 1; 1, 1; 3, 1; 5, 2")
	checkEval(t, group(q, "s n", "count(g)=c"), in, `(s text, n int, c int): null, null, 1; null, -4, 1; "", 0, 1; "a", 3, 0; "b", 1, 0; "y", 5, 2; "z", null, 1`)
	checkEval(t, group(q, "", "sum(n)=c count()=d min(s)=e max(g)=f count(g)=h"), in, `(c int, d int, e text, f text, h int): 10, 8, "", "p", 6`)
	for _, e := range []relop.Plan{scan("e"), where(scan("x"), num(0)), first(0, scan("x"), "")} {
		checkEval(t, group(e, "", "count()=n"), in, "(n int): 0")
		checkEval(t, group(e, "", "count(s)=n sum(a)=m min(s)=l max(a)=h"), in, "(n int, m int, l text, h int): 0, null, null, null")
		checkEval(t, group(e, "s", "count()=n"), in, "(s text, n int)")
		checkEval(t, group(e, "a s", ""), in, "(a int, s text)")
	}
	checkEval(t, group(group(q, "g", "count()=c"), "", "sum(c)=n count()=m"), in, "(n int, m int): 8, 4")
}

// ints returns a source named q with these integers, and a column that orders them.
func ints(l ...int) []relop.Source {
	s := schema.Schema{{Name: "i", Type: 1}, {Name: "n", Type: 1}}
	var rows [][]value.Value
	for i, n := range l {
		rows = append(rows, []value.Value{value.Of(i), value.Of(n)})
	}
	t, _ := table.Make(s, rows)
	return []relop.Source{{Name: "q", Table: t}}
}

// P5.3: sums are exact: the sum of some rows may be no int though that of all is, and the other way round.
func TestEvalSum(t *testing.T) {
	const most, least = math.MaxInt, math.MinInt
	total := group(scan("q"), "", "sum(n)=m")
	for _, l := range [][]int{
		{0}, {-1}, {most}, {least}, {most, 0}, {most, 1, -1}, {1, most, -1}, {most, most, least, least}, {least, least, most, most}, {least, most}, {most, most, most, least, least, least, 5},
		{1 << 62, 1 << 62, -1}, {-1 << 62, -1 << 62}, {1 << 32, 1 << 31, -1}, {-1, -1, -1}, {-1 << 32, 1<<32 - 1}, {1<<32 - 1, 1<<32 - 1, 1<<32 - 1}, {most - 1, 1}, {least + 1, -1}, {least, least, most, most, 2},
	} {
		for range len(l) {
			l = append(l[1:], l[0])
			want := new(big.Int)
			for _, n := range l {
				want.Add(want, big.NewInt(int64(n)))
			}
			checkEval(t, total, ints(l...), "(m int): "+want.String())
		}
	}
	for _, l := range [][]int{
		{most, 1}, {least, -1}, {most, most}, {least, least}, {1 << 62, 1 << 62}, {1 << 62, 1 << 62, 1 << 62, 1 << 62}, {most, most, 2}, {most, most, most, most, 4}, {least, least, least, least},
		{-1 << 62, -1 << 62, -1}, {most, most, most, least}, {least, least, most}, {most, 5, -4}, {most, most, 1},
	} {
		for range len(l) {
			l = append(l[1:], l[0])
			checkFails(t, total, ints(l...), api.ErrOverflow)
			checkFails(t, group(scan("q"), "", "count()=c min(n)=d sum(i)=e sum(n)=m"), ints(l...), api.ErrOverflow)
		}
	}
	many := slices.Repeat([]int{most}, api.MaxRows)
	checkFails(t, total, ints(many...), api.ErrOverflow)
	for i := range many[:api.MaxRows/2] {
		many[i] = least
	}
	checkEval(t, total, ints(many...), "(m int): -2048")
	slices.Reverse(many)
	checkEval(t, total, ints(many...), "(m int): -2048")
	checkEval(t, group(scan("q"), "i", "sum(n)=m"), ints(most, most), "(i int, m int): 0, 9223372036854775807; 1, 9223372036854775807")
	for _, s := range []string{"1, 1; 1, 9223372036854775807; 2, 3", "0, 3; 1, 1; 1, 9223372036854775807", "0, null; 1, -9223372036854775808; 1, -1; 5, 5"} {
		checkFails(t, group(scan("q"), "g", "sum(n)=m"), source("(g int, n int): "+s), api.ErrOverflow)
		checkFails(t, first(0, group(scan("q"), "g", "sum(n)=m"), ""), source("(g int, n int): "+s), api.ErrOverflow)
	}
}

// P5.3: unions, distinct rows, and the first rows in an order.
func TestEvalOthers(t *testing.T) {
	in := source(`(a int, s text): null, "z"; 1, null; 1, "a"; 1, "a"; 2, "a"; 2, "b"; 3, null`)
	const all = `(a int, s text): null, "z"; 1, null; 1, "a"; 1, "a"; 2, "a"; 2, "b"; 3, null`
	q := scan("q")
	checkEval(t, union(q, scan("e")), in, all)
	checkEval(t, union(scan("e"), q), in, all)
	checkEval(t, union(scan("e"), scan("e")), in, "(a int, s text)")
	checkEval(t, union(where(q, bin(col("a"), "=", num(1))), where(q, bin(col("a"), "<", num(3)))), in, `(a int, s text): 1, null; 1, null; 1, "a"; 1, "a"; 1, "a"; 1, "a"; 2, "a"; 2, "b"`)
	checkEval(t, distinct(q), in, `(a int, s text): null, "z"; 1, null; 1, "a"; 2, "a"; 2, "b"; 3, null`)
	checkEval(t, distinct(keep(q, "s", col("s"))), in, `(s text): null; "a"; "b"; "z"`)
	checkEval(t, distinct(keep(q, "n", null0(col("a")))), in, `(n int): null; 1; 2; 3`)
	checkEval(t, distinct(scan("e")), in, "(a int, s text)")
	for n, want := range []string{"", `: null, "z"`, `: null, "z"; 1, null`, `: null, "z"; 1, null; 1, "a"`, `: null, "z"; 1, null; 1, "a"; 1, "a"`} {
		checkEval(t, first(n, q, ""), in, "(a int, s text)"+want)
		checkEval(t, first(n, q, "a"), in, "(a int, s text)"+want)
		checkEval(t, first(n, q, "a s"), in, "(a int, s text)"+want)
		checkEval(t, first(n, q, "a a -a"), in, "(a int, s text)"+want)
	}
	for _, n := range []int{7, 8, 4097, math.MaxInt} {
		checkEval(t, first(n, q, "-s a"), in, all)
		checkEval(t, first(n, scan("e"), "-s a"), in, "(a int, s text)")
	}
	checkEval(t, first(6, q, "-a"), in, `(a int, s text): 1, null; 1, "a"; 1, "a"; 2, "a"; 2, "b"; 3, null`)
	checkEval(t, first(4, q, "-a"), in, `(a int, s text): 1, null; 2, "a"; 2, "b"; 3, null`)
	checkEval(t, first(2, q, "-a"), in, `(a int, s text): 2, "a"; 3, null`)
	checkEval(t, first(2, q, "-a -s"), in, `(a int, s text): 2, "b"; 3, null`)
	checkEval(t, first(2, q, "-a s -s"), in, `(a int, s text): 2, "a"; 3, null`)
	checkEval(t, first(1, q, "s"), in, `(a int, s text): 1, null`)
	checkEval(t, first(3, q, "s"), in, `(a int, s text): 1, null; 1, "a"; 3, null`)
	checkEval(t, first(1, q, "s -a"), in, `(a int, s text): 3, null`)
	checkEval(t, first(1, q, "-s"), in, `(a int, s text): null, "z"`)
	checkEval(t, first(3, q, "-s -a"), in, `(a int, s text): null, "z"; 2, "a"; 2, "b"`)
	checkEval(t, first(4, q, "-s"), in, `(a int, s text): null, "z"; 1, "a"; 1, "a"; 2, "b"`)
}

// null0 is an expression with the value of x, but for 0.
func null0(x expr.Expr) expr.Expr { return call("if", x, x, null()) }

// P5.3: rows are evaluated in the order of the table, also where they come from another operator in another order.
func TestEvalOrder(t *testing.T) {
	in := append(source("(a int, b int): -1, 5; 0, 6; 1, 7; 1, 8"), relop.Source{Name: "one", Table: tab("(k int): 1")})
	q := scan("q")
	equals := func(x expr.Expr, n int) expr.Expr { return bin(x, "=", num(n)) }
	// The value of x decides the error: 0 divides, and 1 overflows.
	by := func(x expr.Expr) expr.Expr {
		return call("if", equals(x, 0), divides(), call("if", equals(x, 1), overflows(), x))
	}
	minus := keep(q, "a", un("-", col("a")))
	for _, p := range []relop.Plan{
		q, minus, distinct(minus), keep(minus, "a", un("-", col("a"))), union(where(q, equals(col("a"), 1)), where(q, equals(col("a"), 0))), union(where(minus, equals(col("a"), 1)), where(minus, equals(col("a"), 0))),
		first(9, q, "-a"), first(3, q, "-b"), first(9, q, "-b"), group(keep(q, "g a", un("-", col("a")), col("a")), "a", ""), group(keep(q, "g a", un("-", col("a")), col("a")), "a", "count()=n sum(g)=m"),
		keep(join(minus, scan("one"), "a=k"), "a", num(0)), keep(left(keep(q, "n a", un("-", col("a")), col("a")), scan("one"), "n=k"), "a", col("a")),
	} {
		checkFails(t, where(p, by(col("a"))), in, api.ErrDivide)
		checkFails(t, keep(p, "c", by(col("a"))), in, api.ErrDivide)
		checkFails(t, keep(p, "c d", num(1), by(col("a"))), in, api.ErrDivide)
	}
	// Row by row, and Expr by Expr within a row.
	at := func(n int, x expr.Expr) expr.Expr { return call("if", equals(col("a"), n), x, num(0)) }
	checkFails(t, keep(q, "c d", at(1, divides()), at(0, overflows())), in, api.ErrOverflow)
	checkFails(t, keep(q, "c d", at(0, divides()), at(-1, overflows())), in, api.ErrOverflow)
	checkFails(t, keep(q, "c d", at(0, divides()), at(0, overflows())), in, api.ErrDivide)
	checkFails(t, keep(q, "c d", at(0, divides()), at(1, overflows())), in, api.ErrDivide)
	checkFails(t, keep(q, "c d e", num(1), overflows(), divides()), in, api.ErrOverflow)
	checkFails(t, keep(q, "c d e", num(1), divides(), overflows()), in, api.ErrDivide)
	checkFails(t, keep(q, "c", call("cat", text(strings.Repeat("w", 64)), text("x"))), in, api.ErrOverflow)
}

// P5.3: the errors of Type come first, then those of the Args, one after another, then those of the plan itself.
func TestEvalErrors(t *testing.T) {
	in := source("(a int, n int): 1, 1; 1, 9223372036854775807")
	q := scan("q")
	divide, overflow := keep(q, "a n", divides(), num(1)), keep(q, "a n", num(1), overflows())
	many := keep(join(keep(scan("big"), "p", num(1)), keep(scan("big"), "q", num(1)), "p=q"), "a n", col("p"), col("q"))
	in = append(in, relop.Source{Name: "big", Table: column("a", upTo(65))})
	errs := map[api.Errno]relop.Plan{api.ErrDivide: divide, api.ErrOverflow: overflow, api.ErrMany: many}
	for a, p := range errs {
		for b, o := range errs {
			checkFails(t, union(p, o), in, a)
			checkFails(t, union(union(q, p), o), in, a)
			checkFails(t, union(q, union(p, o)), in, a)
			checkFails(t, join(p, keep(o, "b m", col("a"), col("n")), "a=b"), in, a)
			checkFails(t, left(keep(p, "b m", col("a"), col("n")), o, "m=a"), in, a)
			checkFails(t, union(q, p), in, a)
			checkFails(t, union(o, q), in, b)
		}
		for _, bad := range []expr.Expr{divides(), overflows()} {
			checkFails(t, where(p, bad), in, a)
			checkFails(t, keep(p, "c", bad), in, a)
		}
		checkFails(t, where(p, num(0)), in, a)
		checkFails(t, distinct(p), in, a)
		checkFails(t, group(p, "", "count()=c"), in, a)
		checkFails(t, group(p, "a", "sum(n)=c"), in, a)
		checkFails(t, first(0, p, ""), in, a)
		checkFails(t, join(scan("e"), keep(p, "b", col("a")), "a=b"), in, a)
		// What has no schema is not evaluated.
		checkFails(t, union(p, scan("zz")), in, api.ErrName)
		checkFails(t, union(p, scan("bad")), in, api.ErrType)
		checkFails(t, where(p, col("zz")), in, api.ErrName)
		checkFails(t, first(-1, p, ""), in, api.ErrForm)
		checkFails(t, chain(16, p), in, api.ErrDeep)
		checkFails(t, union(p, broad(64)), in, api.ErrMany)
		checkFails(t, keep(p, "c c", num(1), num(2)), in, api.ErrTwice)
	}
	checkFails(t, group(union(q, where(q, divides())), "", "sum(n)=m"), in, api.ErrDivide)
	checkFails(t, group(q, "", "sum(n)=m"), in, api.ErrOverflow)
	checkFails(t, where(group(q, "", "sum(n)=m"), divides()), in, api.ErrOverflow)
}

// column returns a table of one column of integers.
func column(name string, l []int) table.Table {
	var rows [][]value.Value
	for _, n := range l {
		rows = append(rows, []value.Value{value.Of(n)})
	}
	t, _ := table.Make(schema.Schema{{Name: name, Type: 1}}, rows)
	return t
}

func upTo(n int) []int {
	var l []int
	for i := range n {
		l = append(l, i)
	}
	return l
}

// checkRows expects a table of so many rows, or ErrMany if they are too many.
func checkRows(t *testing.T, p relop.Plan, in []relop.Source, n int) {
	t.Helper()
	if n > api.MaxRows {
		checkFails(t, p, in, api.ErrMany)
		checkFails(t, first(0, p, ""), in, api.ErrMany)
		return
	}
	if got, e := p.Eval(in); e != api.OK || len(got.Rows) != n || got.Check() != api.OK {
		t.Errorf("Eval of the Kind %d: %d rows, %d, want %d", p.Kind, len(got.Rows), e, n)
	}
}

// P5.3: MaxRows rows, and one more, by each Kind that can have more than its Args.
func TestEvalMany(t *testing.T) {
	const most = api.MaxRows
	in := []relop.Source{
		{Name: "all", Table: column("a", upTo(most))}, {Name: "but", Table: column("a", upTo(most-1))}, {Name: "one", Table: column("a", []int{9})}, {Name: "two", Table: column("c", []int{9, 9})},
		{Name: "same", Table: column("c", slices.Repeat([]int{9}, most))}, {Name: "none", Table: column("a", nil)}, {Name: "64", Table: column("a", slices.Repeat([]int{5}, 64))}, {Name: "65", Table: column("c", slices.Repeat([]int{5}, 65))},
		{Name: "64 c", Table: column("c", slices.Repeat([]int{5}, 64))}, {Name: "all c", Table: column("c", upTo(most))}, {Name: "fives", Table: column("a", slices.Repeat([]int{9}, most))},
	}
	for _, c := range []struct {
		l, r string
		n    int
	}{
		{"all", "none", most}, {"but", "one", most}, {"one", "but", most}, {"all", "one", most + 1}, {"one", "all", most + 1}, {"all", "all", 2 * most}, {"but", "but", 2*most - 2},
	} {
		checkRows(t, union(scan(c.l), scan(c.r)), in, c.n)
	}
	for _, c := range []struct {
		l, r       string
		join, left int
	}{
		{"64", "64 c", most, most}, {"64", "65", most + 64, most + 64}, {"all", "all c", most, most}, {"all", "two", 2, most + 1}, {"but", "two", 2, most}, {"one", "same", most, most}, {"fives", "two", 2 * most, 2 * most},
		{"all", "same", most, 2*most - 1}, {"all", "65", 65, most + 64}, {"none", "same", 0, 0}, {"fives", "same", most * most, most * most}, {"fives", "65", 0, most},
	} {
		checkRows(t, join(scan(c.l), scan(c.r), "a=c"), in, c.join)
		checkRows(t, left(scan(c.l), scan(c.r), "a=c"), in, c.left)
	}
	for _, p := range []relop.Plan{scan("all"), where(scan("all"), num(1)), keep(scan("fives"), "c", num(1)), group(scan("all"), "a", "count()=n"), distinct(scan("all")), first(most, scan("all"), "-a"), first(most+1, scan("fives"), "")} {
		checkRows(t, p, in, most)
	}
	checkRows(t, distinct(scan("fives")), in, 1)
	checkRows(t, first(most-1, scan("all"), "-a"), in, most-1)
	checkRows(t, union(distinct(scan("fives")), scan("but")), in, most)
}

// P5.3: 64 plans, 16 levels, and pairs and orders that are there very often.
func TestEvalLarge(t *testing.T) {
	in := sources()
	got, e := broad(64).Eval(in)
	if e != api.OK || got.Check() != api.OK || len(got.Rows) == 0 {
		t.Errorf("Eval of 64 plans: %d rows, %d", len(got.Rows), e)
	}
	checkEval(t, chain(15, scan("x")), in, `(a int, b int, s text): null, 1, "u"; 1, null, "u"; 1, 2, "v"; 2, 2, null; 3, 0, "w"`)
	p := join(scan("x"), scan("y"), "a=k")
	want, _ := p.Eval(in)
	p.On = slices.Repeat(p.On, 1<<18)
	if got, e := p.Eval(in); e != api.OK || !got.Equal(want) {
		t.Errorf("Eval of a join with very many pairs: %d rows, %d", len(got.Rows), e)
	}
	all := []relop.Source{{Name: "q", Table: column("a", slices.Repeat([]int{1}, api.MaxRows))}}
	f := first(2, scan("q"), "a")
	f.By = slices.Repeat(f.By, 1<<16)
	if got, e := f.Eval(all); e != api.OK || len(got.Rows) != 2 {
		t.Errorf("Eval of a first with very many orders: %d rows, %d", len(got.Rows), e)
	}
	broad := group(scan("q"), "a", "")
	for i := range 15 {
		broad.Aggs = append(broad.Aggs, relop.Agg{Op: "count", Name: "c" + strconv.Itoa(i)})
	}
	checkEval(t, broad, all, "(a int, c0 int, c1 int, c2 int, c3 int, c4 int, c5 int, c6 int, c7 int, c8 int, c9 int, c10 int, c11 int, c12 int, c13 int, c14 int): 1"+strings.Repeat(", 4096", 15))
}

// reckoned is a table as the reckoning has it: its rows are sorted, whatever they come from.
type reckoned struct {
	columns schema.Schema
	rows    [][]value.Value
}

// cmpRows is the order of rows, by the order of values.
func cmpRows(a, b []value.Value) int { return slices.CompareFunc(a, b, value.Value.Cmp) }

// reckonedEval is what the document asks of the result of p, which has a schema.
func reckonedEval(p relop.Plan, in []relop.Source) (reckoned, api.Errno) {
	var args []reckoned
	for _, a := range p.Args {
		r, errno := reckonedEval(a, in)
		if errno != api.OK {
			return r, errno
		}
		args = append(args, r)
	}
	columns, _ := reckonedType(p, in, 1)
	rows, errno := reckonedRows(p, in, args)
	if errno == api.OK && len(rows) > 4096 {
		errno = api.ErrMany
	}
	slices.SortFunc(rows, cmpRows)
	return reckoned{columns, rows}, errno
}

func reckonedRows(p relop.Plan, in []relop.Source, args []reckoned) ([][]value.Value, api.Errno) {
	var rows [][]value.Value
	switch p.Kind {
	case 1:
		i := slices.IndexFunc(in, func(s relop.Source) bool { return s.Name == p.Name })
		return slices.Clone(in[i].Table.Rows), api.OK
	case 2, 3:
		for _, row := range args[0].rows {
			l := p.Exprs
			if p.Kind == 2 {
				l = []expr.Expr{p.Cond}
			}
			var made []value.Value
			for _, x := range l {
				v, errno := x.Eval(args[0].columns, row)
				if errno != api.OK {
					return nil, errno
				}
				made = append(made, v)
			}
			if p.Kind == 3 {
				rows = append(rows, made)
			} else if made[0].Kind == 1 && made[0].Int != 0 {
				rows = append(rows, row)
			}
		}
	case 4, 5:
		return reckonedJoin(p, args[0], args[1]), api.OK
	case 6:
		return reckonedGroups(p, args[0])
	case 7:
		return append(slices.Clone(args[0].rows), args[1].rows...), api.OK
	case 8:
		for i, row := range args[0].rows {
			if i == 0 || !slices.Equal(row, args[0].rows[i-1]) {
				rows = append(rows, row)
			}
		}
	case 9:
		return reckonedFirst(p, args[0]), api.OK
	}
	return rows, api.OK
}

// cell returns the value of a column.
func (r reckoned) cell(row []value.Value, name string) value.Value {
	return row[slices.IndexFunc(r.columns, func(c schema.Column) bool { return c.Name == name })]
}

func reckonedJoin(p relop.Plan, l, r reckoned) [][]value.Value {
	var rows [][]value.Value
	for _, a := range l.rows {
		alone := true
		for _, b := range r.rows {
			equal := true
			for _, on := range p.On {
				v := l.cell(a, on.Left)
				equal = equal && v.Kind != 0 && v == r.cell(b, on.Right)
			}
			if equal {
				rows = append(rows, append(slices.Clone(a), b...))
				alone = false
			}
		}
		if alone && p.Kind == 5 {
			rows = append(rows, append(slices.Clone(a), make([]value.Value, len(r.columns))...))
		}
	}
	return rows
}

func reckonedGroups(p relop.Plan, r reckoned) ([][]value.Value, api.Errno) {
	var heads [][]value.Value
	var members [][][]value.Value
	if len(p.Names) == 0 {
		heads, members = [][]value.Value{nil}, [][][]value.Value{r.rows}
	} else {
		for _, row := range r.rows {
			var head []value.Value
			for _, name := range p.Names {
				head = append(head, r.cell(row, name))
			}
			i := slices.IndexFunc(heads, func(h []value.Value) bool { return slices.Equal(h, head) })
			if i < 0 {
				i = len(heads)
				heads, members = append(heads, head), append(members, nil)
			}
			members[i] = append(members[i], row)
		}
	}
	for i := range heads {
		for _, a := range p.Aggs {
			v, errno := reckonedAgg(a, r, members[i])
			if errno != api.OK {
				return nil, errno
			}
			heads[i] = append(heads[i], v)
		}
	}
	return heads, api.OK
}

func reckonedAgg(a relop.Agg, r reckoned, rows [][]value.Value) (value.Value, api.Errno) {
	if a.Column == "" {
		return value.Of(len(rows)), api.OK
	}
	var l []value.Value
	sum := new(big.Int)
	for _, row := range rows {
		if v := r.cell(row, a.Column); v.Kind != 0 {
			l = append(l, v)
			sum.Add(sum, big.NewInt(int64(v.Int)))
		}
	}
	slices.SortFunc(l, value.Value.Cmp)
	switch {
	case a.Op == "count":
		return value.Of(len(l)), api.OK
	case len(l) == 0:
		return value.Null(), api.OK
	case a.Op == "min":
		return l[0], api.OK
	case a.Op == "max":
		return l[len(l)-1], api.OK
	case !sum.IsInt64():
		return value.Null(), api.ErrOverflow
	}
	return value.Of(int(sum.Int64())), api.OK
}

// reckonedFirst takes the least row of those that are left, again and again.
func reckonedFirst(p relop.Plan, r reckoned) [][]value.Value {
	rest := slices.Clone(r.rows)
	before := func(a, b []value.Value) bool {
		for _, o := range p.By {
			c := r.cell(a, o.Column).Cmp(r.cell(b, o.Column))
			if c != 0 {
				return (c < 0) != o.Down
			}
		}
		return cmpRows(a, b) < 0
	}
	var rows [][]value.Value
	for range min(p.Count, len(rest)) {
		least := 0
		for i := range rest {
			if before(rest[i], rest[least]) {
				least = i
			}
		}
		rows = append(rows, rest[least])
		rest = slices.Delete(rest, least, least+1)
	}
	return rows
}

// P5.3: some thousands of plans against an independent reckoning.
func TestEvalRandom(t *testing.T) {
	counts := map[api.Errno]int{}
	kinds := map[int]int{}
	m := &maker{r: rand.New(rand.NewSource(3)), in: sources()}
	m.in[0].Table = tab(`(a int, b int, s text): null, null, null; null, 1, "u"; 1, null, "u"; 1, 2, "v"; 1, 2, "v"; 1, 3, null; 2, 2, null; 2, 2, "vw"; 4, 0, "w"; 4, 9223372036854775807, ""`)
	for i := range 20000 {
		m.odds = 20 + i%100
		p := m.plan(1 + i%6)
		_, errno := schemaOrError(p, m.in)
		var want reckoned
		if errno == api.OK {
			want, errno = reckonedEval(p, m.in)
			kinds[p.Kind]++
		}
		got, e := p.Eval(m.in)
		if e != errno || e != api.OK && len(got.Schema)+len(got.Rows) != 0 {
			t.Fatalf("Eval of %v: %d, want %d", p, e, errno)
		}
		if e == api.OK && (!got.Schema.Equal(want.columns) || !slices.EqualFunc(got.Rows, want.rows, slices.Equal[[]value.Value]) || got.Check() != api.OK) {
			t.Fatalf("Eval of %v:\n%v\n%v", p, got, want)
		}
		counts[errno]++
	}
	for _, errno := range []api.Errno{api.OK, api.ErrDivide, api.ErrOverflow, api.ErrForm, api.ErrName} {
		if counts[errno] < 40 {
			t.Errorf("the errors are %v", counts)
		}
	}
	for kind := 1; kind < 10; kind++ {
		if kinds[kind] < 500 {
			t.Errorf("the Kinds are %v", kinds)
		}
	}
}
