package relop_test

import (
	"math"
	"slices"
	"strconv"
	"strings"
	"testing"

	"bywash/api"
	"bywash/expr"
	"bywash/relop"
	"bywash/table"
	"bywash/value"
)

// Short names, so that plans in tests stay readable.
func col(name string) expr.Expr                         { return expr.Column(name) }
func num(n int) expr.Expr                               { return expr.Const(value.Of(n)) }
func text(s string) expr.Expr                           { return expr.Const(value.Text(s)) }
func null() expr.Expr                                   { return expr.Const(value.Null()) }
func un(op string, a expr.Expr) expr.Expr               { return expr.Unary(op, a) }
func bin(a expr.Expr, op string, b expr.Expr) expr.Expr { return expr.Binary(op, a, b) }
func call(name string, args ...expr.Expr) expr.Expr     { return expr.Call(name, args...) }

func plans(l ...relop.Plan) []relop.Plan { return l }

func scan(name string) relop.Plan { return relop.Plan{Kind: 1, Name: name} }

func where(p relop.Plan, c expr.Expr) relop.Plan {
	return relop.Plan{Kind: 2, Args: plans(p), Cond: c}
}

// keep has its names in one text, with spaces between them.
func keep(p relop.Plan, names string, l ...expr.Expr) relop.Plan {
	return relop.Plan{Kind: 3, Args: plans(p), Names: strings.Fields(names), Exprs: l}
}

// pairs reads a text such as a=k b=v.
func pairs(on string) []relop.Pair {
	var l []relop.Pair
	for _, w := range strings.Fields(on) {
		a, b, _ := strings.Cut(w, "=")
		l = append(l, relop.Pair{Left: a, Right: b})
	}
	return l
}

func join(p, q relop.Plan, on string) relop.Plan {
	return relop.Plan{Kind: 4, Args: plans(p, q), On: pairs(on)}
}

func left(p, q relop.Plan, on string) relop.Plan {
	return relop.Plan{Kind: 5, Args: plans(p, q), On: pairs(on)}
}

// aggs reads a text such as count()=n sum(a)=m.
func aggs(s string) []relop.Agg {
	var l []relop.Agg
	for _, w := range strings.Fields(s) {
		call, name, _ := strings.Cut(w, "=")
		op, rest, _ := strings.Cut(call, "(")
		l = append(l, relop.Agg{Op: op, Column: strings.TrimSuffix(rest, ")"), Name: name})
	}
	return l
}

func group(p relop.Plan, names, ops string) relop.Plan {
	return relop.Plan{Kind: 6, Args: plans(p), Names: strings.Fields(names), Aggs: aggs(ops)}
}

func union(p, q relop.Plan) relop.Plan { return relop.Plan{Kind: 7, Args: plans(p, q)} }

func distinct(p relop.Plan) relop.Plan { return relop.Plan{Kind: 8, Args: plans(p)} }

// orders reads a text such as a -b, where b goes down.
func orders(by string) []relop.Order {
	var l []relop.Order
	for _, w := range strings.Fields(by) {
		name, down := strings.CutPrefix(w, "-")
		l = append(l, relop.Order{Column: name, Down: down})
	}
	return l
}

func first(n int, p relop.Plan, by string) relop.Plan {
	return relop.Plan{Kind: 9, Args: plans(p), Count: n, By: orders(by)}
}

// tab reads a table from a text such as (a int): 1; 2; 2, whose rows may be in any order.
func tab(s string) table.Table {
	head, rest, some := strings.Cut(s, ": ")
	var rows [][]value.Value
	for _, line := range strings.Split(rest, "; ") {
		if some {
			rows = append(rows, parsed(head+"\n"+line+"\n").Rows...)
		}
	}
	t, _ := table.Make(parsed(head+"\n").Schema, rows)
	return t
}

func parsed(s string) table.Table {
	t, e := table.Parse(s)
	if e != api.OK {
		panic("no table: " + s)
	}
	return t
}

// unsorted returns a table that is not valid.
func unsorted() table.Table {
	t := tab("(a int): 1; 2")
	slices.Reverse(t.Rows)
	return t
}

// sources is what most tests scan: nulls and rows that are there more than once, two sources with one name, and some that are not valid.
func sources() []relop.Source {
	return []relop.Source{
		{Name: "x", Table: tab(`(a int, b int, s text): null, 1, "u"; 1, null, "u"; 1, 2, "v"; 1, 2, "v"; 2, 2, null; 3, 0, "w"`)},
		{Name: "y", Table: tab(`(k int, v text): null, "n"; 1, "p"; 1, "q"; 1, "q"; 3, null; 4, "u"`)},
		{Name: "x", Table: tab(`(other text): "z"`)},
		{Name: "e", Table: tab("(a int, s text)")},
		{Name: "bad", Table: unsorted()},
		{Name: "bad", Table: tab("(a int): 7")},
		{Name: "good", Table: tab("(a int): 7")},
		{Name: "good", Table: unsorted()},
		{Name: "", Table: tab("(nameless int): 5")},
		{Name: "Not a name\xff", Table: tab("(odd int): 6")},
		{Name: "zero"},
	}
}

// chain returns n distincts over p.
func chain(n int, p relop.Plan) relop.Plan {
	for range n {
		p = relop.Plan{Kind: 8, Args: plans(p)}
	}
	return p
}

// broad returns a plan of n plans whose depth is not more than 9 if n is at most 130.
func broad(n int) relop.Plan {
	switch {
	case n == 1:
		return scan("x")
	case n%2 == 0:
		return distinct(broad(n - 1))
	case n%4 == 1:
		return union(broad(n/2-1), broad(n/2+1))
	}
	return union(broad(n/2), broad(n/2))
}

// shared returns a plan of 2^(n+1)-1 plans in little memory.
func shared(n int) relop.Plan {
	p := scan("x")
	for range n {
		p = relop.Plan{Kind: 7, Args: plans(p, p)}
	}
	return p
}

// same holds plans against each other by what they are made of, without Equal.
func same(p, o relop.Plan) bool {
	if p.Kind != o.Kind || p.Name != o.Name || p.Count != o.Count || !sameExpr(p.Cond, o.Cond) || !slices.Equal(p.Names, o.Names) ||
		!slices.Equal(p.On, o.On) || !slices.Equal(p.Aggs, o.Aggs) || !slices.Equal(p.By, o.By) || len(p.Exprs) != len(o.Exprs) || len(p.Args) != len(o.Args) {
		return false
	}
	for i := range p.Exprs {
		if !sameExpr(p.Exprs[i], o.Exprs[i]) {
			return false
		}
	}
	for i := range p.Args {
		if !same(p.Args[i], o.Args[i]) {
			return false
		}
	}
	return true
}

func sameExpr(a, b expr.Expr) bool {
	if a.Kind != b.Kind || a.Name != b.Name || a.Value != b.Value || a.Op != b.Op || len(a.Args) != len(b.Args) {
		return false
	}
	for i := range a.Args {
		if !sameExpr(a.Args[i], b.Args[i]) {
			return false
		}
	}
	return true
}

// whole lists a plan of each kind that has a schema for sources.
func whole() []relop.Plan {
	return []relop.Plan{
		scan("x"), where(scan("x"), bin(col("a"), "<", col("b"))), keep(scan("x"), "p q", bin(col("a"), "+", num(1)), call("cat", col("s"), text("!"))),
		join(scan("x"), scan("y"), "a=k s=v"), left(scan("x"), scan("y"), "a=k s=v"), group(scan("x"), "a s", "count()=n sum(b)=m"),
		union(scan("x"), scan("x")), distinct(scan("x")), first(3, scan("x"), "a -s"),
	}
}

// malformed lists plans of which most have no schema.
func malformed() []relop.Plan {
	l := []relop.Plan{
		{}, {Kind: -1}, {Kind: 10}, {Kind: math.MinInt}, {Kind: math.MaxInt}, {Kind: 1, Args: plans(scan("x"))}, {Kind: 4, Args: plans(scan("x"))}, {Kind: 9, Args: plans(scan("x"), scan("y"))},
		{Kind: 3, Args: plans(scan("x")), Names: []string{"a"}}, {Kind: 3, Args: plans(scan("x")), Exprs: []expr.Expr{{}}}, {Kind: 4, Args: plans(scan("x"), scan("y"))},
		{Kind: 6, Args: plans(scan("x"))}, {Kind: 6, Args: plans(scan("x")), Aggs: []relop.Agg{{}}}, {Kind: 9, Args: plans(scan("x")), Count: math.MinInt, By: []relop.Order{{}}},
		{Kind: 77, Name: "x", Args: plans(scan("y"), relop.Plan{}), Cond: num(1), Names: []string{"a", ""}, Exprs: []expr.Expr{{}, num(1)}, On: pairs("a=b"), Aggs: aggs("?(a)=b"), By: orders("c -d"), Count: -7},
	}
	for kind := range 11 {
		for n := range 4 {
			l = append(l, relop.Plan{Kind: kind, Args: slices.Repeat(plans(scan("y")), n), Names: []string{"A"}, On: pairs("zz=zz"), By: orders("zz")})
		}
	}
	return l
}

// P5.1: the number of plans, whatever their form.
func TestSize(t *testing.T) {
	for _, c := range []struct {
		p    relop.Plan
		want int
	}{
		{relop.Plan{}, 1}, {scan("x"), 1}, {where(scan("x"), bin(num(1), "+", num(2))), 2}, {keep(scan("x"), "a b", num(1), num(2)), 2}, {join(scan("x"), scan("y"), "a=b c=d"), 3},
		{left(distinct(scan("x")), scan("y"), ""), 4}, {left(scan("x"), distinct(scan("y")), ""), 4}, {group(scan("x"), "a", "count()=n"), 2}, {union(union(scan("x"), scan("x")), union(scan("x"), scan("x"))), 7},
		{first(9, scan("x"), "a b c"), 2}, {relop.Plan{Kind: 1, Args: plans(scan("x"), relop.Plan{})}, 3}, {relop.Plan{Args: plans(relop.Plan{}, relop.Plan{Args: make([]relop.Plan, 2)}, relop.Plan{})}, 6},
		{relop.Plan{Kind: 7, Args: make([]relop.Plan, 1<<16)}, 1<<16 + 1}, {shared(15), 1<<16 - 1}, {chain(1<<16-1, scan("x")), 1 << 16},
	} {
		if got := c.p.Size(); got != c.want {
			t.Errorf("Size of a plan of Kind %d: %d, want %d", c.p.Kind, got, c.want)
		}
	}
	for n := 1; n < 300; n++ {
		if got := broad(n).Size(); got != n {
			t.Errorf("Size of %d plans: %d", n, got)
		}
	}
}

// different lists plans of which no two are equal: each field differs alone, in its length and in each part of its elements.
func different() []relop.Plan {
	l := []relop.Plan{
		{}, {Kind: 1}, {Kind: 2}, {Kind: -1}, {Name: "a"}, {Name: "b"}, {Kind: 1, Name: "a"}, {Count: 1}, {Count: -1}, {Kind: 9, Count: 1}, {Cond: num(1)}, {Cond: num(2)}, {Cond: null()},
		{Cond: un("-", num(1))}, {Cond: un("-", num(2))}, {Cond: call("f")}, {Cond: call("f", expr.Expr{})},
		{Names: []string{""}}, {Names: []string{"a"}}, {Names: []string{"a", "b"}}, {Names: []string{"b", "a"}}, {Names: []string{"a", "a"}}, {Names: []string{"ab"}},
		{Exprs: []expr.Expr{{}}}, {Exprs: []expr.Expr{num(1)}}, {Exprs: []expr.Expr{num(1), num(2)}}, {Exprs: []expr.Expr{num(2), num(1)}}, {Exprs: []expr.Expr{un("-", num(1)), num(2)}}, {Exprs: []expr.Expr{un("-", num(3)), num(2)}},
		{On: []relop.Pair{{}}}, {On: pairs("a=b")}, {On: pairs("b=a")}, {On: pairs("a=c")}, {On: pairs("c=b")}, {On: pairs("a=b a=b")}, {On: pairs("a=b c=d")}, {On: pairs("c=d a=b")},
		{Aggs: []relop.Agg{{}}}, {Aggs: aggs("sum(a)=b")}, {Aggs: aggs("min(a)=b")}, {Aggs: aggs("sum(c)=b")}, {Aggs: aggs("sum(a)=c")}, {Aggs: aggs("sum(a)=b sum(a)=b")}, {Aggs: aggs("a(b)=sum")},
		{By: []relop.Order{{}}}, {By: orders("a")}, {By: orders("-a")}, {By: orders("b")}, {By: orders("a b")}, {By: orders("b a")}, {By: orders("a -b")}, {By: []relop.Order{{Down: true}}},
		{Args: plans(relop.Plan{})}, {Args: plans(relop.Plan{}, relop.Plan{})}, {Args: plans(scan("x"))}, {Args: plans(scan("x"), scan("y"))}, {Args: plans(scan("y"), scan("x"))}, {Args: plans(relop.Plan{Args: plans(scan("x"))})},
		{Args: plans(relop.Plan{Args: plans(scan("x"))}, scan("y"))}, {Args: plans(relop.Plan{Args: plans(scan("x"), scan("y"))})}, {Args: plans(relop.Plan{Names: []string{"a"}})}, {Args: plans(relop.Plan{By: orders("-a")})},
		scan("x"), scan("y"), where(scan("x"), num(1)), where(scan("x"), num(2)), where(scan("y"), num(1)), join(scan("x"), scan("y"), "a=b"), join(scan("y"), scan("x"), "a=b"), left(scan("x"), scan("y"), "a=b"),
		keep(scan("x"), "a", num(1)), keep(scan("x"), "b", num(1)), keep(scan("x"), "a", num(2)), first(1, scan("x"), "a"), first(2, scan("x"), "a"), first(1, scan("x"), "-a"), group(scan("x"), "a", ""), group(scan("x"), "", "a()="),
	}
	return append(l, chain(200, scan("x")), chain(200, scan("y")), chain(201, scan("x")), broad(63), broad(64), broad(65))
}

// P5.1: equality, in all fields and at any depth.
func TestEqual(t *testing.T) {
	l, m := different(), different()
	for i, p := range l {
		for k, o := range m {
			if got := p.Equal(o); got != (i == k) {
				t.Errorf("Equal of the plans %d and %d: %v", i, k, got)
			}
		}
	}
	none := relop.Plan{Kind: 3, Args: plans(scan("x"))}
	empty := relop.Plan{Kind: 3, Args: plans(relop.Plan{Kind: 1, Name: "x", Args: plans()}), Cond: expr.Expr{Args: []expr.Expr{}}, Names: []string{}, Exprs: []expr.Expr{}, On: []relop.Pair{}, Aggs: []relop.Agg{}, By: []relop.Order{}}
	empty.Args = slices.Grow(empty.Args, 5)
	if !none.Equal(empty) || !empty.Equal(none) {
		t.Errorf("nil and empty lists are not equal")
	}
}

// P5.1: the names of scans, in order and each once.
func TestInputs(t *testing.T) {
	odd := relop.Plan{Kind: 7, Name: "k", Names: []string{"n"}, Args: plans(relop.Plan{Kind: 1, Name: "y", Args: plans(scan("x"), relop.Plan{Name: "n"})}, relop.Plan{Kind: 2, Name: "c"}, scan("w"))}
	bytes := relop.Plan{Args: plans(scan("\xff"), scan("~"), scan("\u00e9"), scan("a"), scan(""), scan("B"), scan("\x00"), scan("A"), scan("a\x00"), scan("10"), scan("9"), scan("A"))}
	for i, c := range []struct {
		p    relop.Plan
		want []string
	}{
		{relop.Plan{}, nil}, {relop.Plan{Name: "a"}, nil}, {relop.Plan{Kind: 2, Name: "a"}, nil}, {scan("a"), []string{"a"}}, {scan(""), []string{""}}, {distinct(scan("a")), []string{"a"}},
		{where(scan("a"), col("b")), []string{"a"}}, {keep(scan("a"), "c", col("b")), []string{"a"}}, {group(scan("a"), "c", "count(b)=d"), []string{"a"}}, {first(1, scan("a"), "b"), []string{"a"}},
		{union(scan("a"), scan("a")), []string{"a"}}, {union(scan("b"), scan("a")), []string{"a", "b"}}, {join(scan("a"), scan("b"), "c=d"), []string{"a", "b"}}, {left(scan("b"), scan("a"), "c=d"), []string{"a", "b"}},
		{union(union(scan("c"), scan("a")), join(distinct(scan("b")), scan("c"), "")), []string{"a", "b", "c"}}, {odd, []string{"w", "x", "y"}}, {chain(1<<16-1, scan("deep")), []string{"deep"}},
		{bytes, []string{"", "\x00", "10", "9", "A", "B", "a", "a\x00", "~", "\u00e9", "\xff"}},
	} {
		if got := c.p.Inputs(); !slices.Equal(got, c.want) {
			t.Errorf("Inputs of the plan %d: %q, want %q", i, got, c.want)
		}
	}
	var args []relop.Plan
	var want []string
	for i := range 1000 {
		args = append(args, scan("c"+strconv.Itoa(i*7919%1000)), scan("c"+strconv.Itoa(i*i%1000)))
		want = append(want, "c"+strconv.Itoa(i))
	}
	slices.Sort(want)
	if got := (relop.Plan{Args: args}).Inputs(); !slices.Equal(got, want) {
		t.Errorf("Inputs of 2000 scans: %q", got)
	}
}
