package relop_test

import (
	"math"
	"math/rand"
	"slices"
	"testing"

	"bywash/api"
	"bywash/expr"
	"bywash/relop"
	"bywash/schema"
	"bywash/table"
	"bywash/value"
)

// padded returns l, each element as f makes it, with spare capacity that is filled, so that any write to it is seen.
func padded[T any](l []T, spare T, f func(T) T) []T {
	c := slices.Repeat([]T{spare}, 2*len(l)+5)
	for i, x := range l {
		c[i] = f(x)
	}
	return c[:len(l)]
}

func itself[T any](x T) T { return x }

// unharmed reports whether l, its spare capacity included, is what padded made of want.
func unharmed[T any](l, want []T, spare T, same func(a, b T) bool) bool {
	w := padded(want, spare, itself[T])
	return slices.EqualFunc(l, want, same) && slices.EqualFunc(l[len(l):cap(l)], w[len(w):2*len(want)+5], same)
}

func equal[T comparable](a, b T) bool { return a == b }

// What fills spare capacity.
var (
	spareExpr   = expr.Expr{Kind: 77, Name: "spare"}
	sparePlan   = relop.Plan{Kind: 77, Name: "spare"}
	sparePair   = relop.Pair{Left: "spare", Right: "spare"}
	spareAgg    = relop.Agg{Op: "spare", Column: "spare", Name: "spare"}
	spareOrder  = relop.Order{Column: "spare", Down: true}
	spareColumn = schema.Column{Name: "spare", Type: 77}
	spareValue  = value.Text("spare")
	spareRow    = []value.Value{spareValue}
	spareSource = relop.Source{Name: "spare"}
)

func filledExpr(e expr.Expr) expr.Expr {
	e.Args = padded(e.Args, spareExpr, filledExpr)
	return e
}

func intactExpr(e, want expr.Expr) bool {
	if !sameExpr(e, want) || !unharmed(e.Args, want.Args, spareExpr, sameExpr) {
		return false
	}
	for i := range e.Args {
		if !intactExpr(e.Args[i], want.Args[i]) {
			return false
		}
	}
	return true
}

// filled returns p with spare capacity in all its lists, and in those of its expressions.
func filled(p relop.Plan) relop.Plan {
	p.Args = padded(p.Args, sparePlan, filled)
	p.Cond = filledExpr(p.Cond)
	p.Names = padded(p.Names, "spare", itself)
	p.Exprs = padded(p.Exprs, spareExpr, filledExpr)
	p.On = padded(p.On, sparePair, itself)
	p.Aggs = padded(p.Aggs, spareAgg, itself)
	p.By = padded(p.By, spareOrder, itself)
	return p
}

// intact reports whether p is what filled made of want.
func intact(p, want relop.Plan) bool {
	if !same(p, want) || !intactExpr(p.Cond, want.Cond) || !unharmed(p.Args, want.Args, sparePlan, same) || !unharmed(p.Exprs, want.Exprs, spareExpr, sameExpr) {
		return false
	}
	for i := range p.Exprs {
		if !intactExpr(p.Exprs[i], want.Exprs[i]) {
			return false
		}
	}
	for i := range p.Args {
		if !intact(p.Args[i], want.Args[i]) {
			return false
		}
	}
	return unharmed(p.Names, want.Names, "spare", equal) && unharmed(p.On, want.On, sparePair, equal) &&
		unharmed(p.Aggs, want.Aggs, spareAgg, equal) && unharmed(p.By, want.By, spareOrder, equal)
}

func sameRow(a, b []value.Value) bool { return slices.Equal(a, b) }

func filledSources(in []relop.Source) []relop.Source {
	return padded(in, spareSource, func(s relop.Source) relop.Source {
		s.Table.Schema = padded(s.Table.Schema, spareColumn, itself)
		s.Table.Rows = padded(s.Table.Rows, spareRow, func(r []value.Value) []value.Value { return padded(r, spareValue, itself) })
		return s
	})
}

func sameSource(a, b relop.Source) bool {
	return a.Name == b.Name && slices.Equal(a.Table.Schema, b.Table.Schema) && slices.EqualFunc(a.Table.Rows, b.Table.Rows, sameRow)
}

// intactSources reports whether in is what filledSources made of want.
func intactSources(in, want []relop.Source) bool {
	if !unharmed(in, want, spareSource, sameSource) {
		return false
	}
	for i, s := range in {
		w := want[i].Table
		if !unharmed(s.Table.Schema, w.Schema, spareColumn, equal) || !unharmed(s.Table.Rows, w.Rows, spareRow, sameRow) {
			return false
		}
		for k, r := range s.Table.Rows {
			if !unharmed(r, w.Rows[k], spareValue, equal) {
				return false
			}
		}
	}
	return true
}

// samples lists plans of all kinds for the tests of memory, with and without errors.
func samples() []relop.Plan {
	x, y := scan("x"), scan("y")
	cond := bin(col("a"), "<", bin(num(2), "+", un("-", null())))
	l := []relop.Plan{
		where(x, num(1)), where(x, cond), where(where(x, num(1)), num(2)), keep(x, "a", col("a")), keep(x, "s t u", col("s"), call("cat", col("s"), text("-")), col("s")), left(y, x, "k=a"), left(y, scan("e"), "k=a"),
		group(x, "", "count()=n"), group(x, "a b s", ""), group(x, "s", "min(s)=l max(s)=h"), group(scan("e"), "", "count()=n"), union(x, scan("e")), union(scan("e"), x), union(x, where(x, num(1))), distinct(distinct(x)),
		first(0, x, ""), first(9, x, ""), first(9, x, "-s"), first(2, x, "-a b"), first(9, distinct(x), "-a"), where(x, divides()), keep(x, "a b", num(1), overflows()), scan("zz"), scan("bad"), scan("e"), scan(""), y,
		join(distinct(x), union(y, y), "a=k s=v"), union(first(2, x, "-a"), distinct(union(x, x))), keep(join(x, y, "a=k"), "v n", col("v"), bin(col("a"), "+", col("b"))), chain(15, x), chain(16, x), broad(64), broad(65), union(x, y),
	}
	return append(append(l, whole()...), malformed()...)
}

// P5.4: arguments, and their spare capacity, are not modified.
func TestArguments(t *testing.T) {
	l := samples()
	for i, want := range l {
		wantO := l[(i*7+3)%len(l)]
		p, o, in := filled(want), filled(wantO), filledSources(sources())
		p.Size()
		p.Equal(o)
		p.Equal(p)
		p.Inputs()
		p.Type(in)
		p.Eval(in)
		p.Type(in[:3])
		p.Eval(in[:1])
		if !intact(p, want) || !intact(o, wantO) {
			t.Errorf("the plan %d is modified", i)
		}
		if !intactSources(in, sources()) {
			t.Errorf("the sources of the plan %d are modified", i)
		}
	}
}

// scribble overwrites all memory of a list, its spare capacity included.
func scribble[T any](l []T, with T) {
	l = l[:cap(l)]
	for i := range l {
		l[i] = with
	}
}

func scribbleTable(x table.Table) {
	for _, r := range x.Rows[:cap(x.Rows)] {
		scribble(r, value.Text("scribble"))
	}
	scribble(x.Schema, schema.Column{Name: "scribble", Type: 66})
	scribble(x.Rows, []value.Value{value.Text("scribble")})
}

// scribblePlan overwrites all lists of p.
func scribblePlan(p relop.Plan) {
	for _, a := range p.Args {
		scribblePlan(a)
	}
	scribble(p.Args, relop.Plan{Kind: 66})
	scribble(p.Cond.Args, expr.Expr{Kind: 66})
	scribble(p.Names, "scribble")
	scribble(p.Exprs, expr.Expr{Kind: 66})
	scribble(p.On, relop.Pair{Left: "scribble"})
	scribble(p.Aggs, relop.Agg{Op: "scribble"})
	scribble(p.By, relop.Order{Column: "scribble"})
}

// rowsApart reports whether no two rows of x share memory, their spare capacity included; it overwrites them.
func rowsApart(x table.Table) bool {
	seen := map[*value.Value]struct{}{}
	for _, r := range x.Rows {
		r = r[:cap(r)]
		for i := range r {
			if _, twice := seen[&r[i]]; twice {
				return false
			}
			seen[&r[i]] = struct{}{}
		}
	}
	return true
}

// checkResults reports results of p that share memory with each other or with an argument, and arguments that are kept.
func checkResults(t *testing.T, want relop.Plan, sources []relop.Source) {
	t.Helper()
	p, in := filled(want), filledSources(sources)
	a, _ := p.Eval(in)
	b, _ := p.Eval(in)
	s, _ := p.Type(in)
	u, _ := p.Type(in)
	names, others := p.Inputs(), p.Inputs()
	wantTable, wantNames := b.Copy(), slices.Clone(others)
	if !rowsApart(a) {
		t.Errorf("rows of the result of %v share memory", want)
	}
	scribbleTable(a)
	scribble(s, schema.Column{Name: "scribble", Type: 66})
	scribble(names, "scribble")
	if !intact(p, want) || !intactSources(in, sources) {
		t.Errorf("results of %v share memory with an argument", want)
	}
	if !b.Equal(wantTable) || !u.Equal(wantTable.Schema) && len(wantTable.Schema) > 0 || !slices.Equal(others, wantNames) {
		t.Errorf("results of %v share memory", want)
	}
	scribblePlan(p)
	for _, s := range in {
		scribbleTable(s.Table)
	}
	scribble(in, relop.Source{Name: "scribble"})
	if !b.Equal(wantTable) || !u.Equal(wantTable.Schema) && len(wantTable.Schema) > 0 || !slices.Equal(others, wantNames) {
		t.Errorf("arguments of %v are kept", want)
	}
}

// P5.4: results are new memory, with their rows and names, and arguments are not retained.
func TestResults(t *testing.T) {
	for _, p := range samples() {
		checkResults(t, p, sources())
	}
	m := &maker{r: rand.New(rand.NewSource(9)), in: sources(), odds: 200}
	for i := range 2000 {
		checkResults(t, m.plan(1+i%5), m.in)
	}
}

// P5.4: rows and schemas that share memory as arguments do not as results.
func TestResultsShared(t *testing.T) {
	row := []value.Value{value.Of(1), value.Text("a")}
	columns := schema.Schema{{Name: "a", Type: 1}, {Name: "s", Type: 2}}
	one := relop.Source{Name: "x", Table: table.Table{Schema: columns, Rows: [][]value.Value{row, row, row}}}
	in := []relop.Source{one, {Name: "z", Table: one.Table}}
	for _, p := range []relop.Plan{
		scan("x"), where(scan("x"), num(1)), keep(scan("x"), "a s", col("a"), col("s")), union(scan("x"), scan("z")), union(scan("x"), scan("x")), first(2, scan("x"), ""), distinct(scan("z")),
		join(scan("x"), keep(scan("z"), "b t", col("a"), col("s")), "a=b"), left(scan("x"), keep(scan("z"), "b t", num(2), col("s")), "a=b"), group(scan("x"), "a", "max(s)=s"),
	} {
		got, e := p.Eval(in)
		if e != api.OK || !rowsApart(got) {
			t.Errorf("rows of the Kind %d share memory: %d", p.Kind, e)
		}
		scribbleTable(got)
		s, _ := p.Type(in)
		scribble(s, schema.Column{Name: "scribble"})
		if !slices.Equal(row, []value.Value{value.Of(1), value.Text("a")}) || columns[0].Name != "a" || columns[1].Name != "s" {
			t.Fatalf("results of the Kind %d share memory with a source", p.Kind)
		}
	}
}

// P1: every call ends and does not panic, whatever it is given.
func TestEnds(t *testing.T) {
	l := append(samples(), different()...)
	l = append(l, chain(1<<16-1, relop.Plan{}), relop.Plan{Kind: 7, Args: make([]relop.Plan, 1<<16)}, shared(14))
	for kind := -1; kind < 12; kind++ {
		for _, p := range different() {
			p.Kind = kind
			for _, n := range []int{math.MinInt, -1, 0, math.MaxInt} {
				p.Count = n
				p.Args = slices.Repeat(plans(scan("x")), max(0, reckonedArgs[kind]))
				l = append(l, p)
			}
		}
	}
	ins := [][]relop.Source{nil, {}, sources(), sources()[:1], make([]relop.Source, 1<<10), {{Name: "x", Table: table.Table{Rows: make([][]value.Value, 9)}}}, {{Name: "x", Table: table.Table{Schema: make(schema.Schema, 9)}}}}
	for i, p := range l {
		p.Size()
		p.Inputs()
		p.Equal(p)
		p.Equal(l[(i+1)%len(l)])
		for _, in := range ins {
			p.Type(in)
			p.Eval(in)
		}
	}
	for _, p := range []relop.Plan{shared(60), shared(1000), chain(1<<15, shared(60)), union(shared(60), relop.Plan{})} {
		checkType(t, p, sources(), "", api.ErrMany)
	}
}
