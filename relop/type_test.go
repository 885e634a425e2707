package relop_test

import (
	"math/rand"
	"slices"
	"strconv"
	"strings"
	"testing"

	"bywash/api"
	"bywash/expr"
	"bywash/relop"
	"bywash/schema"
	"bywash/value"
)

// checkType holds Type of p against the text of the schema that is wanted; with an error, there is none.
func checkType(t *testing.T, p relop.Plan, in []relop.Source, want string, errno api.Errno) {
	t.Helper()
	got, e := p.Type(in)
	if e != errno || got.Show() != want || e != api.OK && len(got) != 0 {
		t.Errorf("Type of %v: %v, %d, want %s, %d", p, got, e, want, errno)
	}
	if errno != api.OK {
		checkFails(t, p, in, errno)
	}
}

// checkFails expects an error of Eval.
func checkFails(t *testing.T, p relop.Plan, in []relop.Source, errno api.Errno) {
	t.Helper()
	if got, e := p.Eval(in); e != errno || len(got.Schema) != 0 || len(got.Rows) != 0 {
		t.Errorf("Eval of %v: %d rows, %d, want %d", p, len(got.Rows), e, errno)
	}
}

// The number of Args by Kind.
var reckonedArgs = map[int]int{1: 0, 2: 1, 3: 1, 4: 2, 5: 2, 6: 1, 7: 2, 8: 1, 9: 1}

// schemaOrError is what the document asks of the schema of p.
func schemaOrError(p relop.Plan, in []relop.Source) (schema.Schema, api.Errno) {
	if p.Size() > 64 {
		return nil, api.ErrMany
	}
	return reckonedType(p, in, 1)
}

func reckonedType(p relop.Plan, in []relop.Source, depth int) (schema.Schema, api.Errno) {
	if depth > 16 {
		return nil, api.ErrDeep
	}
	if n, ok := reckonedArgs[p.Kind]; !ok || n != len(p.Args) {
		return nil, api.ErrForm
	}
	if p.Kind == 1 {
		i := slices.IndexFunc(in, func(s relop.Source) bool { return s.Name == p.Name })
		if i < 0 {
			return nil, api.ErrName
		}
		if in[i].Table.Check() != api.OK {
			return nil, api.ErrType
		}
		return in[i].Table.Schema, api.OK
	}
	var args []schema.Schema
	for _, a := range p.Args {
		s, errno := reckonedType(a, in, depth+1)
		if errno != api.OK {
			return nil, errno
		}
		args = append(args, s)
	}
	s, errno := reckonedColumns(p, args)
	if errno != api.OK {
		return nil, errno
	}
	return s, s.Check()
}

// typeIn returns the type of a column, or 0 if there is no such column.
func typeIn(s schema.Schema, name string) int {
	for _, c := range s {
		if c.Name == name {
			return c.Type
		}
	}
	return 0
}

func reckonedColumns(p relop.Plan, args []schema.Schema) (schema.Schema, api.Errno) {
	var l schema.Schema
	switch p.Kind {
	case 2:
		_, errno := p.Cond.Type(args[0])
		return args[0], errno
	case 3:
		if len(p.Names) != len(p.Exprs) {
			return nil, api.ErrForm
		}
		any := false
		for i, x := range p.Exprs {
			n, errno := x.Type(args[0])
			if errno != api.OK {
				return nil, errno
			}
			any = any || n == 0
			l = append(l, schema.Column{Name: p.Names[i], Type: n})
		}
		if any {
			return nil, api.ErrType
		}
		return l, api.OK
	case 4, 5:
		if len(p.On) == 0 {
			return nil, api.ErrForm
		}
		for _, on := range p.On {
			a, b := typeIn(args[0], on.Left), typeIn(args[1], on.Right)
			if a*b == 0 {
				return nil, api.ErrName
			}
			if a != b {
				return nil, api.ErrType
			}
		}
		return append(append(l, args[0]...), args[1]...), api.OK
	case 6:
		return reckonedGroup(p, args[0])
	case 7:
		if !args[0].Equal(args[1]) {
			return nil, api.ErrType
		}
	case 9:
		if p.Count < 0 {
			return nil, api.ErrForm
		}
		for _, o := range p.By {
			if typeIn(args[0], o.Column) == 0 {
				return nil, api.ErrName
			}
		}
	}
	return args[0], api.OK
}

func reckonedGroup(p relop.Plan, s schema.Schema) (schema.Schema, api.Errno) {
	var l schema.Schema
	for _, name := range p.Names {
		n := typeIn(s, name)
		if n == 0 {
			return nil, api.ErrName
		}
		l = append(l, schema.Column{Name: name, Type: n})
	}
	for _, a := range p.Aggs {
		n := typeIn(s, a.Column)
		switch {
		case !slices.Contains(strings.Fields("count sum min max"), a.Op), a.Column == "" && a.Op != "count":
			return nil, api.ErrForm
		case a.Column != "" && n == 0:
			return nil, api.ErrName
		case a.Op == "sum" && n == 2:
			return nil, api.ErrType
		case a.Op == "count":
			n = 1
		}
		l = append(l, schema.Column{Name: a.Name, Type: n})
	}
	return l, api.OK
}

// P5.2: schemas, written out, for each Kind.
func TestType(t *testing.T) {
	const x, y, xy = "(a int, b int, s text)", "(k int, v text)", "(a int, b int, s text, k int, v text)"
	for _, c := range []struct {
		p    relop.Plan
		want string
	}{
		{scan("x"), x}, {scan("y"), y}, {scan("e"), "(a int, s text)"}, {scan("good"), "(a int)"}, {scan(""), "(nameless int)"}, {scan("Not a name\xff"), "(odd int)"},
		{where(scan("x"), num(1)), x}, {where(scan("x"), null()), x}, {where(scan("x"), col("s")), x}, {where(scan("y"), bin(col("k"), "=", num(1))), y},
		{keep(scan("x"), "a", col("s")), "(a text)"}, {keep(scan("x"), "p q r", col("s"), col("b"), call("len", col("s"))), "(p text, q int, r int)"}, {keep(scan("y"), "b a", num(1), text("")), "(b int, a text)"},
		{keep(scan("x"), "a", call("either", null(), col("s"))), "(a text)"}, {keep(scan("x"), "s b", col("a"), col("b")), "(s int, b int)"},
		{join(scan("x"), scan("y"), "a=k"), xy}, {join(scan("x"), scan("y"), "s=v b=k"), xy}, {join(scan("x"), scan("y"), "a=k a=k"), xy}, {join(scan("y"), scan("x"), "k=a"), "(k int, v text, a int, b int, s text)"},
		{left(scan("x"), scan("y"), "a=k"), xy}, {left(scan("y"), scan("x"), "k=a v=s"), "(k int, v text, a int, b int, s text)"}, {left(scan("y"), scan("e"), "v=s"), "(k int, v text, a int, s text)"},
		{group(scan("x"), "a", ""), "(a int)"}, {group(scan("x"), "s a", ""), "(s text, a int)"}, {group(scan("x"), "", "count()=n"), "(n int)"}, {group(scan("x"), "", "count(s)=s"), "(s int)"},
		{group(scan("x"), "s b", "sum(a)=m min(s)=l max(a)=h"), "(s text, b int, m int, l text, h int)"}, {group(scan("x"), "", "max(s)=a min(a)=b sum(b)=c count(a)=d max(s)=e"), "(a text, b int, c int, d int, e text)"},
		{union(scan("x"), scan("x")), x}, {union(scan("y"), keep(scan("x"), "k v", col("b"), col("s"))), y}, {union(keep(scan("x"), "k v", col("b"), col("s")), scan("y")), y},
		{distinct(scan("y")), y}, {distinct(distinct(scan("x"))), x}, {first(0, scan("x"), ""), x}, {first(9, scan("y"), "v -k"), y}, {first(1, scan("y"), "v v -v"), y}, {first(1<<62, scan("e"), "-a"), "(a int, s text)"},
		{keep(join(keep(scan("x"), "a", col("a")), keep(scan("x"), "b", col("b")), "a=b"), "c", bin(col("a"), "-", col("b"))), "(c int)"},
	} {
		checkType(t, c.p, sources(), c.want, api.OK)
	}
}

// P5.2: sources, by their names: the first one with a name counts, and its table must be valid.
func TestTypeSources(t *testing.T) {
	for _, name := range []string{"z", "X", "x ", " x", "xx", "Good", "\x00", "Not a name", strings.Repeat("x", 1<<12)} {
		checkType(t, scan(name), sources(), "", api.ErrName)
		checkType(t, distinct(scan(name)), sources(), "", api.ErrName)
	}
	checkType(t, scan("x"), nil, "", api.ErrName)
	checkType(t, scan(""), nil, "", api.ErrName)
	checkType(t, scan("bad"), sources(), "", api.ErrType)
	checkType(t, scan("zero"), sources(), "", api.ErrType)
	valid := tab("(a int): 1; 2")
	tables := map[string]relop.Source{}
	add := func(name string, f func(s *relop.Source)) {
		s := relop.Source{Name: "q", Table: valid.Copy()}
		f(&s)
		tables[name] = s
	}
	add("no columns", func(s *relop.Source) { s.Table.Schema = nil })
	add("a wrong name", func(s *relop.Source) { s.Table.Schema[0].Name = "A" })
	add("a wrong type", func(s *relop.Source) { s.Table.Schema[0].Type = 0 })
	add("a name twice", func(s *relop.Source) {
		s.Table.Schema = append(s.Table.Schema, s.Table.Schema[0])
		s.Table.Rows = nil
	})
	add("too many columns", func(s *relop.Source) { s.Table.Schema = make(schema.Schema, 17) })
	add("too many rows", func(s *relop.Source) { s.Table.Rows = slices.Repeat(s.Table.Rows[:1], api.MaxRows+1) })
	add("a misfit", func(s *relop.Source) { s.Table.Rows[1] = []value.Value{value.Text("x")} })
	add("an invalid value", func(s *relop.Source) { s.Table.Rows[0] = []value.Value{{Int: 1}} })
	add("a short row", func(s *relop.Source) { s.Table.Rows[0] = nil })
	add("unsorted rows", func(s *relop.Source) { slices.Reverse(s.Table.Rows) })
	for name, s := range tables {
		if _, e := scan("q").Type([]relop.Source{s}); e != api.ErrType {
			t.Errorf("Type for a source with %s: %d", name, e)
		}
		good := relop.Source{Name: "q", Table: valid}
		checkType(t, scan("q"), []relop.Source{good, s}, "(a int)", api.OK)
		checkType(t, scan("q"), []relop.Source{s, good}, "", api.ErrType)
		other := relop.Source{Name: "r", Table: s.Table}
		checkType(t, scan("q"), []relop.Source{other, good}, "(a int)", api.OK)
		checkType(t, union(scan("q"), scan("r")), []relop.Source{other, good}, "", api.ErrType)
	}
}

// P5.2: each Kind with any number of Args, and Kinds that are none.
func TestTypeForm(t *testing.T) {
	for _, base := range whole() {
		for kind := -2; kind < 13; kind++ {
			for n := range 5 {
				p := base
				p.Kind, p.Args = kind, slices.Repeat(plans(scan("y")), n)
				if want, ok := reckonedArgs[kind]; !ok || want != n {
					checkType(t, p, sources(), "", api.ErrForm)
					checkType(t, distinct(p), sources(), "", api.ErrForm)
				}
				// What is wrong with the Args comes after the form.
				if want, ok := reckonedArgs[kind]; n > 0 && (!ok || want != n) {
					p.Args = slices.Repeat(plans(scan("zz")), n)
					checkType(t, p, sources(), "", api.ErrForm)
				}
			}
		}
		if _, e := base.Type(sources()); e != api.OK {
			t.Errorf("Type of the Kind %d: %d", base.Kind, e)
		}
	}
	for _, kind := range []int{-1 << 63, 1<<63 - 1, 256 + 1, 1<<32 + 8} {
		checkType(t, relop.Plan{Kind: kind, Args: plans(scan("x"))}, sources(), "", api.ErrForm)
		checkType(t, relop.Plan{Kind: kind, Name: "x"}, sources(), "", api.ErrForm)
	}
	// Fields that a Kind does not have are nothing to it.
	for kind, n := range reckonedArgs {
		p := relop.Plan{Kind: kind, Name: "x", Args: slices.Repeat(plans(scan("x")), n), Names: []string{"a"}, Exprs: []expr.Expr{col("a")}, Cond: num(1), On: pairs("a=a"), Aggs: aggs("count()=n"), By: orders("a"), Count: 2}
		want, errno := "(a int, b int, s text)", api.OK
		switch kind {
		case 3:
			want = "(a int)"
		case 4, 5:
			want, errno = "", api.ErrTwice
		case 6:
			want = "(a int, n int)"
		}
		checkType(t, p, sources(), want, errno)
	}
	zz := relop.Plan{Names: []string{"zz", "A"}, Exprs: []expr.Expr{{}}, Cond: col("zz"), On: pairs("zz=zz"), Aggs: aggs("?(zz)=zz"), By: orders("zz"), Count: -1}
	for _, kind := range []int{1, 7, 8} {
		p := zz
		p.Kind, p.Name, p.Args = kind, "y", slices.Repeat(plans(scan("y")), reckonedArgs[kind])
		checkType(t, p, sources(), "(k int, v text)", api.OK)
	}
}

// P5.2: 64 plans, and one more.
func TestTypeMany(t *testing.T) {
	for n := 1; n < 200; n++ {
		want, errno, wide := "(a int, b int, s text)", api.OK, api.ErrForm
		if n > 64 {
			want, errno, wide = "", api.ErrMany, api.ErrMany
		}
		checkType(t, broad(n), sources(), want, errno)
		if n > 3 {
			checkType(t, relop.Plan{Kind: 4, Args: slices.Repeat(plans(scan("x")), n-1)}, sources(), "", wide)
		}
	}
	checkType(t, relop.Plan{Args: make([]relop.Plan, 63)}, sources(), "", api.ErrForm)
	checkType(t, relop.Plan{Args: make([]relop.Plan, 64)}, sources(), "", api.ErrMany)
	checkType(t, union(broad(31), broad(32)), sources(), "(a int, b int, s text)", api.OK)
	checkType(t, union(broad(32), broad(32)), sources(), "", api.ErrMany)
	checkType(t, union(broad(1), broad(63)), sources(), "", api.ErrMany)
	checkType(t, union(broad(63), broad(1)), sources(), "", api.ErrMany)
	checkType(t, union(scan("zz"), broad(64)), sources(), "", api.ErrMany)
	checkType(t, chain(64, relop.Plan{}), sources(), "", api.ErrMany)
	checkType(t, chain(63, relop.Plan{}), sources(), "", api.ErrDeep)
	for _, n := range []int{60, 1000} {
		checkType(t, shared(n), sources(), "", api.ErrMany)
	}
}

// P5.2: a depth of 16, and one more, by any Arg of any Kind.
func TestTypeDeep(t *testing.T) {
	for n := range 64 {
		want, errno := "(a int, b int, s text)", api.OK
		if n+1 > 16 {
			want, errno = "", api.ErrDeep
		}
		checkType(t, chain(n, scan("x")), sources(), want, errno)
	}
	for _, base := range whole()[1:] {
		for i := range base.Args {
			for n := 1; n < 20; n++ {
				p := base
				p.Args = slices.Clone(p.Args)
				p.Args[i] = chain(n-1, base.Args[i])
				want, errno := api.OK, api.OK
				if n+1 > 16 {
					want = api.ErrDeep
				}
				if _, errno = p.Type(sources()); errno != want {
					t.Errorf("Type of the Kind %d whose Arg %d has the depth %d: %d", p.Kind, i, n, errno)
				}
			}
		}
	}
	// Depth comes before form, form before what is deeper.
	for _, bad := range []relop.Plan{{}, scan("zz"), scan("bad"), {Kind: 1, Args: plans(scan("x"))}, where(scan("x"), col("zz"))} {
		checkType(t, chain(16, bad), sources(), "", api.ErrDeep)
	}
	checkType(t, chain(15, relop.Plan{Kind: 8}), sources(), "", api.ErrForm)
	checkType(t, chain(15, relop.Plan{Kind: 7, Args: plans(scan("x"))}), sources(), "", api.ErrForm)
	checkType(t, chain(15, scan("zz")), sources(), "", api.ErrName)
	checkType(t, chain(15, distinct(scan("zz"))), sources(), "", api.ErrDeep)
	checkType(t, chain(14, union(scan("zz"), distinct(scan("x")))), sources(), "", api.ErrName)
	checkType(t, chain(14, union(distinct(scan("x")), scan("zz"))), sources(), "", api.ErrDeep)
	checkType(t, chain(14, where(scan("x"), col("zz"))), sources(), "", api.ErrName)
}

// fault is something that is wrong with a plan, and the error that it has.
type fault struct {
	errno api.Errno
	spoil func(p *relop.Plan)
}

// checkFaults expects of a plan with any of these faults the error of the first one of them.
func checkFaults(t *testing.T, base func() relop.Plan, faults ...fault) {
	t.Helper()
	for set := range 1 << len(faults) {
		p, want := base(), api.OK
		for i, f := range faults {
			if set>>i&1 == 1 {
				f.spoil(&p)
				if want == api.OK {
					want = f.errno
				}
			}
		}
		if s, e := p.Type(sources()); e != want || e != api.OK && len(s) != 0 {
			t.Errorf("Type of the Kind %d with the faults %b: %d, want %d", p.Kind, set, e, want)
		}
		if want != api.OK {
			checkFails(t, p, sources(), want)
		}
	}
}

// The faults that any Kind with Args may have.
func tooMany() fault {
	return fault{api.ErrForm, func(p *relop.Plan) { p.Args = append(slices.Clone(p.Args), scan("x"), scan("x"), scan("x")) }}
}

func badArg(errno api.Errno, i int) fault {
	l := map[api.Errno]relop.Plan{api.ErrName: scan("zz"), api.ErrType: scan("bad"), api.ErrForm: {}, api.ErrMany: keep(scan("x"), ""), api.ErrTwice: keep(scan("x"), "a a", num(1), num(1)), api.ErrDeep: chain(20, scan("x"))}
	return fault{errno, func(p *relop.Plan) { p.Args = slices.Clone(p.Args); p.Args[i] = l[errno] }}
}

// deepExpr is an expression that has no type because of its depth.
func deepExpr() expr.Expr {
	x := num(1)
	for range api.MaxDepth {
		x = un("-", x)
	}
	return x
}

// P5.2: among several errors, the first one, for scan and where.
func TestTypeOrder(t *testing.T) {
	args := fault{api.ErrForm, func(p *relop.Plan) { p.Args = plans(scan("x")) }}
	checkFaults(t, func() relop.Plan { return scan("x") }, args, fault{api.ErrName, func(p *relop.Plan) { p.Name = "zz" }})
	checkFaults(t, func() relop.Plan { return scan("x") }, args, fault{api.ErrType, func(p *relop.Plan) { p.Name = "bad" }})
	for _, errno := range []api.Errno{api.ErrName, api.ErrType, api.ErrMany, api.ErrTwice, api.ErrDeep, api.ErrForm} {
		for cond, x := range map[api.Errno]expr.Expr{api.ErrDeep: deepExpr(), api.ErrForm: {}, api.ErrName: col("k"), api.ErrType: bin(col("a"), "+", col("s"))} {
			checkFaults(t, func() relop.Plan { return where(scan("x"), col("a")) }, tooMany(), badArg(errno, 0), fault{cond, func(p *relop.Plan) { p.Cond = x }})
			// Each Arg comes before the next one.
			for next := range map[api.Errno]bool{api.ErrName: true, api.ErrType: true, api.ErrTwice: true} {
				checkFaults(t, func() relop.Plan { return union(scan("x"), scan("x")) }, tooMany(), badArg(errno, 0), badArg(next, 1))
				checkFaults(t, func() relop.Plan { return join(scan("x"), scan("y"), "a=k") }, tooMany(), badArg(errno, 0), badArg(next, 1), fault{api.ErrForm, func(p *relop.Plan) { p.On = nil }})
			}
		}
	}
	checkFaults(t, func() relop.Plan { return union(scan("x"), scan("x")) }, badArg(api.ErrName, 0), fault{api.ErrType, func(p *relop.Plan) { p.Args[1] = scan("y") }})
	checkFaults(t, func() relop.Plan { return distinct(scan("x")) }, tooMany(), badArg(api.ErrType, 0))
}

// P5.2: among several errors of a keep, the first one.
func TestTypeOrderKeep(t *testing.T) {
	set := func(i int, x expr.Expr) func(p *relop.Plan) {
		return func(p *relop.Plan) { p.Exprs[i] = x }
	}
	name := func(i int, s string) func(p *relop.Plan) {
		return func(p *relop.Plan) { p.Names[i] = s }
	}
	base := func() relop.Plan {
		return keep(scan("x"), "p q r u v", col("a"), col("b"), col("s"), num(1), text("x"))
	}
	short := fault{api.ErrForm, func(p *relop.Plan) { p.Names = p.Names[:4] }}
	long := fault{api.ErrForm, func(p *relop.Plan) { p.Names = append(p.Names, "w") }}
	for _, differ := range []fault{short, long} {
		checkFaults(t, base, tooMany(), badArg(api.ErrName, 0), differ, fault{api.ErrDeep, set(0, deepExpr())}, fault{api.ErrName, set(2, col("zz"))}, fault{api.ErrType, set(3, bin(num(1), "+", text("x")))})
		checkFaults(t, base, tooMany(), badArg(api.ErrType, 0), differ, fault{api.ErrName, set(4, col("zz"))}, fault{api.ErrType, set(0, null())}, fault{api.ErrName, name(0, "A")}, fault{api.ErrTwice, name(3, "q")})
	}
	checkFaults(t, base, fault{api.ErrForm, set(1, expr.Expr{})}, fault{api.ErrType, set(0, null())}, fault{api.ErrTwice, name(2, "p")}, fault{api.ErrName, name(3, "")})
	checkFaults(t, base, fault{api.ErrType, set(4, call("if", num(1), null(), null()))}, fault{api.ErrName, name(1, "way_too_long_a_name")})
	for n := range 20 {
		var names []string
		var l []expr.Expr
		for i := range n {
			names, l = append(names, "c"+strconv.Itoa(i)), append(l, col("a"))
		}
		p := relop.Plan{Kind: 3, Args: plans(scan("x")), Names: names, Exprs: l}
		if _, e := p.Type(sources()); (e == api.OK) != (n > 0 && n <= api.MaxColumns) || e != api.OK && e != api.ErrMany {
			t.Errorf("Type of a keep of %d: %d", n, e)
		}
		if n > api.MaxColumns {
			p.Exprs[n-1] = null()
			checkType(t, p, sources(), "", api.ErrType)
			p.Exprs[n-1] = col("zz")
			checkType(t, p, sources(), "", api.ErrName)
		}
	}
	checkType(t, relop.Plan{Kind: 3, Args: plans(scan("x")), Names: []string{"a"}}, sources(), "", api.ErrForm)
	checkType(t, relop.Plan{Kind: 3, Args: plans(scan("x")), Exprs: []expr.Expr{col("zz")}}, sources(), "", api.ErrForm)
}

// numbered returns a keep of n columns of integers with this prefix.
func numbered(prefix string, n int) relop.Plan {
	p := relop.Plan{Kind: 3, Args: plans(scan("x"))}
	for i := range n {
		p.Names, p.Exprs = append(p.Names, prefix+strconv.Itoa(i)), append(p.Exprs, col("a"))
	}
	return p
}

// P5.2: among several errors of a join, or of left, the first one.
func TestTypeOrderJoin(t *testing.T) {
	for _, kind := range []int{4, 5} {
		base := func() relop.Plan {
			return relop.Plan{Kind: kind, Args: plans(scan("x"), scan("y")), On: pairs("a=k s=v b=k")}
		}
		on := func(errno api.Errno, i int, a, b string) fault {
			return fault{errno, func(p *relop.Plan) { p.On[i] = relop.Pair{Left: a, Right: b} }}
		}
		twice := fault{api.ErrTwice, func(p *relop.Plan) { p.Args[1] = keep(scan("y"), "a k v", num(1), col("k"), col("v")) }}
		for _, l := range [][]fault{
			{on(api.ErrName, 0, "zz", "k"), on(api.ErrType, 1, "s", "k"), on(api.ErrName, 2, "b", "zz"), twice},
			{on(api.ErrType, 0, "a", "v"), on(api.ErrName, 1, "s", ""), on(api.ErrType, 2, "s", "k"), twice},
			{on(api.ErrName, 0, "k", "a"), on(api.ErrName, 1, "zz", "zz"), on(api.ErrType, 2, "b", "v"), twice},
			{on(api.ErrName, 1, "a", "s"), on(api.ErrName, 2, "v", "k"), twice},
		} {
			checkFaults(t, base, l...)
			checkFaults(t, base, append([]fault{tooMany(), badArg(api.ErrTwice, 0)}, l[:len(l)-1]...)...)
			none := base()
			none.On = nil
			checkType(t, none, sources(), "", api.ErrForm)
		}
		for n := 1; n < 16; n++ {
			p := relop.Plan{Kind: kind, Args: plans(numbered("l", n), numbered("r", 16-n)), On: pairs("l0=r0")}
			if s, e := p.Type(sources()); e != api.OK || len(s) != 16 {
				t.Errorf("Type of a join with 16 columns: %d, %d", len(s), e)
			}
			p.Args[1] = numbered("r", 17-n)
			checkType(t, p, sources(), "", api.ErrMany)
			p.On = pairs("l0=r0 l0=l0")
			checkType(t, p, sources(), "", api.ErrName)
		}
		checkType(t, relop.Plan{Kind: kind, Args: plans(scan("x"), scan("x")), On: pairs("a=a")}, sources(), "", api.ErrTwice)
		checkType(t, relop.Plan{Kind: kind, Args: plans(scan("x"), scan("x")), On: pairs("a=s")}, sources(), "", api.ErrType)
	}
}

// P5.2: among several errors of a group, the first one.
func TestTypeOrderGroup(t *testing.T) {
	base := func() relop.Plan {
		return group(scan("x"), "a b s", "count()=n count(s)=m sum(a)=o min(s)=p max(b)=q")
	}
	name := func(errno api.Errno, i int, s string) fault {
		return fault{errno, func(p *relop.Plan) { p.Names[i] = s }}
	}
	op := func(errno api.Errno, i int, s string) fault {
		return fault{errno, func(p *relop.Plan) { p.Aggs[i] = aggs(s)[0] }}
	}
	rename := func(errno api.Errno, i int, s string) fault {
		return fault{errno, func(p *relop.Plan) { p.Aggs[i].Name = s }}
	}
	for _, l := range [][]fault{
		{tooMany(), badArg(api.ErrType, 0), name(api.ErrName, 1, "zz"), op(api.ErrForm, 0, "no()=n"), op(api.ErrName, 1, "count(zz)=m"), op(api.ErrType, 2, "sum(s)=o"), op(api.ErrName, 3, "min(zz)=p")},
		{badArg(api.ErrMany, 0), op(api.ErrName, 0, "count(zz)=n"), op(api.ErrForm, 1, "sum()=m"), op(api.ErrName, 2, "sum(zz)=o"), op(api.ErrForm, 4, "(a)=q"), rename(api.ErrName, 3, "P")},
		{name(api.ErrName, 2, ""), op(api.ErrType, 0, "sum(s)=n"), op(api.ErrForm, 1, "Count(s)=m"), op(api.ErrForm, 2, "max()=o"), op(api.ErrForm, 3, "min()=p"), rename(api.ErrTwice, 4, "a")},
		{op(api.ErrForm, 0, "avg(zz)=n"), op(api.ErrName, 1, "max(zz)=m"), op(api.ErrType, 2, "sum(s)=o"), rename(api.ErrName, 3, ""), rename(api.ErrTwice, 4, "n")},
		{op(api.ErrName, 4, "max(zz)=q"), name(api.ErrTwice, 1, "a"), rename(api.ErrName, 2, "_")},
		{op(api.ErrForm, 4, "max()=q"), name(api.ErrTwice, 2, "b"), rename(api.ErrTwice, 0, "s")},
	} {
		checkFaults(t, base, l...)
	}
	for _, s := range []string{"", "counts", "COUNT", " count", "sum ", "avg", "mins", "distinct", "su", "\x00"} {
		for _, column := range []string{"", "a", "s", "zz"} {
			checkType(t, relop.Plan{Kind: 6, Args: plans(scan("x")), Aggs: []relop.Agg{{Op: s, Column: column, Name: "n"}}}, sources(), "", api.ErrForm)
		}
	}
	for _, s := range []string{"sum", "min", "max"} {
		checkType(t, group(scan("x"), "", s+"()=n"), sources(), "", api.ErrForm)
		checkType(t, group(scan("x"), "", s+"(zz)=n"), sources(), "", api.ErrName)
	}
	checkType(t, group(scan("x"), "", "count(zz)=n"), sources(), "", api.ErrName)
	checkType(t, group(scan("x"), "", ""), sources(), "", api.ErrMany)
	for n := 1; n < 20; n++ {
		p := group(scan("x"), "a", "")
		for i := range n - 1 {
			p.Aggs = append(p.Aggs, relop.Agg{Op: "count", Name: "c" + strconv.Itoa(i)})
		}
		if _, e := p.Type(sources()); n <= api.MaxColumns && e != api.OK || n > api.MaxColumns && e != api.ErrMany {
			t.Errorf("Type of a group with %d columns: %d", n, e)
		}
	}
	checkType(t, group(scan("x"), strings.Repeat("a ", 17), ""), sources(), "", api.ErrMany)
	checkType(t, group(scan("x"), strings.Repeat("a ", 17)+"zz", ""), sources(), "", api.ErrName)
}

// P5.2: unions of different schemas, and first with a wrong Count or order.
func TestTypeOrderOthers(t *testing.T) {
	for _, s := range []relop.Plan{
		scan("y"), scan("e"), keep(scan("x"), "a b", col("a"), col("b")), keep(scan("x"), "a s b", col("a"), col("s"), col("b")), keep(scan("x"), "a b t", col("a"), col("b"), col("s")),
		keep(scan("x"), "a b s", col("a"), col("b"), col("a")), keep(scan("x"), "b a s", col("a"), col("b"), col("s")), keep(scan("x"), "a b s t", col("a"), col("b"), col("s"), col("s")),
	} {
		checkType(t, union(scan("x"), s), sources(), "", api.ErrType)
		checkType(t, union(s, scan("x")), sources(), "", api.ErrType)
		checkType(t, union(s, scan("zz")), sources(), "", api.ErrName)
	}
	by := func(i int, s string) fault {
		return fault{api.ErrName, func(p *relop.Plan) { p.By[i].Column = s }}
	}
	base := func() relop.Plan { return first(2, scan("x"), "a -b s") }
	for _, n := range []int{-1, -2, -1 << 63} {
		negative := fault{api.ErrForm, func(p *relop.Plan) { p.Count = n }}
		checkFaults(t, base, tooMany(), badArg(api.ErrType, 0), negative, by(0, "zz"), by(2, ""))
		checkFaults(t, base, badArg(api.ErrName, 0), negative, by(1, "k"))
	}
	checkType(t, first(0, scan("x"), "zz"), sources(), "", api.ErrName)
	checkType(t, first(0, scan("x"), strings.Repeat("a ", 1000)), sources(), "(a int, b int, s text)", api.OK)
	checkType(t, first(0, scan("x"), strings.Repeat("a ", 1000)+"zz"), sources(), "", api.ErrName)
}

// maker makes plans, each part of which is spoilt with the chance of one in odds.
type maker struct {
	r     *rand.Rand
	in    []relop.Source
	fresh int
	odds  int
}

// P5.2: some thousands of plans against an independent reckoning.
func TestTypeRandom(t *testing.T) {
	counts := map[api.Errno]int{}
	m := &maker{r: rand.New(rand.NewSource(2)), in: sources()}
	for i := range 20000 {
		m.odds = 2 + i%40
		p := m.plan(1 + i%6)
		want, errno := schemaOrError(p, m.in)
		if got, e := p.Type(m.in); e != errno || e == api.OK && !got.Equal(want) || e != api.OK && len(got) != 0 {
			t.Fatalf("Type of %v: %v, %d, want %v, %d", p, got, e, want, errno)
		}
		counts[errno]++
	}
	for _, errno := range []api.Errno{api.OK, api.ErrMany, api.ErrDeep, api.ErrForm, api.ErrName, api.ErrType, api.ErrTwice} {
		if counts[errno] < 20 {
			t.Errorf("the errors are %v", counts)
		}
	}
}

// plan returns a plan of at most depth levels.
func (m *maker) plan(depth int) relop.Plan {
	p := m.sound(depth)
	if m.r.Intn(m.odds) == 0 {
		m.spoil(&p)
	}
	return p
}

// name returns a name that no other column has.
func (m *maker) name() string {
	m.fresh++
	return "n" + strconv.Itoa(m.fresh)
}

// schemaOf returns the schema of p, or any if there is none.
func (m *maker) schemaOf(p relop.Plan) schema.Schema {
	s, errno := schemaOrError(p, m.in)
	if errno != api.OK {
		return m.in[0].Table.Schema
	}
	return s
}

func (m *maker) column(s schema.Schema) schema.Column { return s[m.r.Intn(len(s))] }

// sound returns a plan of at most depth levels that is in order, unless its Args are not.
func (m *maker) sound(depth int) relop.Plan {
	if depth <= 1 || m.r.Intn(8) == 0 {
		return scan([]string{"x", "y", "e", "good"}[m.r.Intn(4)])
	}
	p := m.plan(depth - 1)
	s := m.schemaOf(p)
	switch m.r.Intn(8) {
	case 0:
		return where(p, m.expr(s, 3, 1))
	case 1:
		return m.keep(p, s)
	case 2, 3:
		o := m.plan(depth - 1)
		if m.r.Intn(m.odds) != 0 {
			o = m.renamed(o)
		}
		q := relop.Plan{Kind: 4 + m.r.Intn(2), Args: plans(p, o)}
		for range 1 + m.r.Intn(2) {
			q.On = append(q.On, m.pair(s, m.schemaOf(o)))
		}
		return q
	case 4:
		return m.group(p, s)
	case 5:
		q := []relop.Plan{p, where(p, m.expr(s, 2, 1)), distinct(p), first(2, p, "")}[m.r.Intn(4)]
		if m.r.Intn(2) == 0 {
			return union(q, p)
		}
		return union(p, q)
	case 6:
		return distinct(p)
	}
	q := relop.Plan{Kind: 9, Args: plans(p), Count: m.r.Intn(7)}
	for range m.r.Intn(4) {
		q.By = append(q.By, relop.Order{Column: m.column(s).Name, Down: m.r.Intn(2) == 0})
	}
	return q
}

func (m *maker) keep(p relop.Plan, s schema.Schema) relop.Plan {
	q := relop.Plan{Kind: 3, Args: plans(p)}
	for range 1 + m.r.Intn(3) {
		q.Names, q.Exprs = append(q.Names, m.name()), append(q.Exprs, m.expr(s, 3, 1+m.r.Intn(2)))
	}
	return q
}

// renamed returns a keep of all columns of p, by other names.
func (m *maker) renamed(p relop.Plan) relop.Plan {
	q := relop.Plan{Kind: 3, Args: plans(p)}
	for _, c := range m.schemaOf(p) {
		q.Names, q.Exprs = append(q.Names, m.name()), append(q.Exprs, col(c.Name))
	}
	return q
}

// pair returns two columns, of the same type if it finds some.
func (m *maker) pair(l, r schema.Schema) relop.Pair {
	a, b := m.column(l), m.column(r)
	for range 9 {
		if a.Type == b.Type {
			break
		}
		a, b = m.column(l), m.column(r)
	}
	return relop.Pair{Left: a.Name, Right: b.Name}
}

func (m *maker) group(p relop.Plan, s schema.Schema) relop.Plan {
	q := relop.Plan{Kind: 6, Args: plans(p)}
	for range m.r.Intn(3) {
		if c := m.column(s); !slices.Contains(q.Names, c.Name) {
			q.Names = append(q.Names, c.Name)
		}
	}
	for range 1 + m.r.Intn(3) {
		c := m.column(s)
		op := []string{"count", "sum", "min", "max"}[m.r.Intn(4)]
		if op == "sum" && c.Type == 2 {
			op = "max"
		}
		if op == "count" && m.r.Intn(2) == 0 {
			c.Name = ""
		}
		q.Aggs = append(q.Aggs, relop.Agg{Op: op, Column: c.Name, Name: m.name()})
	}
	return q
}

// expr returns an expression of a type over s, some of which fail when they are evaluated.
func (m *maker) expr(s schema.Schema, depth, want int) expr.Expr {
	if depth <= 1 || m.r.Intn(3) == 0 {
		for range 9 {
			if c := m.column(s); c.Type == want {
				return col(c.Name)
			}
		}
		if want == 2 {
			return text([]string{"", "u", "vw"}[m.r.Intn(3)])
		}
		return num([]int{0, 1, 2, -3, 1<<63 - 1}[m.r.Intn(5)])
	}
	if want == 2 {
		return call([]string{"cat", "either"}[m.r.Intn(2)], m.expr(s, depth-1, 2), m.expr(s, depth-1, 2))
	}
	switch m.r.Intn(6) {
	case 0:
		return call("len", m.expr(s, depth-1, 2))
	case 1:
		return bin(m.expr(s, depth-1, 2), "<", m.expr(s, depth-1, 2))
	case 2:
		return un("not", m.expr(s, depth-1, 1))
	}
	op := strings.Fields("+ - * / = < != or and")[m.r.Intn(9)]
	return bin(m.expr(s, depth-1, 1), op, m.expr(s, depth-1, 1))
}

// spoil changes something about p, so that it most likely has no schema any more.
func (m *maker) spoil(p *relop.Plan) {
	switch m.r.Intn(14) {
	case 0:
		p.Kind += 1 - 2*m.r.Intn(2)
	case 1:
		p.Args = append(p.Args, scan("x"))
	case 2:
		p.Args = p.Args[:max(0, len(p.Args)-1)]
	case 3:
		p.Name = []string{"zz", "bad", "zero", ""}[m.r.Intn(4)]
	case 4:
		p.Names = append(p.Names, []string{"a", "A", "zz"}[m.r.Intn(3)])
	case 5:
		p.Cond = []expr.Expr{{}, col("zz"), un("-", col("s")), deepExpr()}[m.r.Intn(4)]
	case 6:
		p.Exprs = append(slices.Clone(p.Exprs), []expr.Expr{null(), col("zz"), col("a")}[m.r.Intn(3)])
		p.Names = append(slices.Clone(p.Names), []string{"a", "A", "q"}[m.r.Intn(3)])
	case 7:
		p.On = nil
	case 8:
		p.On = append(p.On, pairs([]string{"zz=zz", "a=a", "a=zz", "s=k"}[m.r.Intn(4)])...)
	case 9:
		p.Aggs = append(p.Aggs, aggs([]string{"no(a)=q", "sum()=q", "max(zz)=q", "sum(s)=q", "count()=a", "count()=Q"}[m.r.Intn(6)])...)
	case 10:
		p.Names, p.Aggs, p.Exprs = nil, nil, nil
	case 11:
		p.Count, p.By = -m.r.Intn(3), orders("a zz")
	case 12:
		*p = chain(8+m.r.Intn(8), *p)
	case 13:
		*p = union(broad(20+m.r.Intn(50)), *p)
	}
}
