package parse_test

import (
	"math/rand"
	"strconv"
	"strings"
	"testing"

	"bywash/api"
	"bywash/expr"
	"bywash/parse"
	"bywash/relop"
	"bywash/schema"
	"bywash/scheme"
	"bywash/window"
)

// writer writes definitions in a way of its own: with parentheses where they are needed, and with some more.
type writer struct{ *rand.Rand }

// names gives any name, which may be a word of the grammar.
func (w writer) name() string {
	return append([]string{"a", "b1", "c_", "d234567890123456"}, words...)[w.Intn(4+w.Intn(1+len(words)))]
}

func (w writer) names(least int) []string {
	var l []string
	for range least + w.Intn(3) {
		l = append(l, w.name())
	}
	return l
}

func (w writer) column() string {
	name := w.name()
	for strings.Contains(" and or not null ", " "+name+" ") {
		name = w.name()
	}
	return name
}

func (w writer) number() int {
	return []int{0, 1, 2, 7, 512, w.Int(), 1<<63 - 1}[w.Intn(7)]
}

func (w writer) literal() string {
	b := make([]byte, w.Intn(6))
	for i := range b {
		b[i] = ` "\a#(~0`[w.Intn(8)]
	}
	return string(b)
}

// quoted returns the source text of a string.
func quoted(s string) string {
	return `"` + strings.NewReplacer(`"`, `\"`, `\`, `\\`).Replace(s) + `"`
}

// expr returns an expression of at most so many levels.
func (w writer) expr(levels int) expr.Expr {
	kinds := 6
	if levels == 1 {
		kinds = 3
	}
	switch w.Intn(kinds) {
	case 0:
		return col(w.column())
	case 1:
		n := w.number()
		if w.Intn(2) == 0 {
			n = -n
		}
		return num(n)
	case 2:
		if w.Intn(3) == 0 {
			return null()
		}
		return str(w.literal())
	case 3:
		return unary([]string{"-", "not"}[w.Intn(2)], w.expr(levels-1))
	case 4:
		op := []string{"or", "and", "=", "!=", "<", "<=", ">", ">=", "+", "-", "*", "/", "%"}[w.Intn(13)]
		return binary(op, w.expr(levels-1), w.expr(levels-1))
	}
	name := w.name()
	for name == "not" {
		name = w.name()
	}
	args := []expr.Expr{w.expr(levels - 1)}
	for range w.Intn(3) {
		args = append(args, w.expr(levels-1))
	}
	return call(name, args...)
}

// level is how close an expression binds.
func level(x expr.Expr) int {
	switch {
	case x.Kind == 2 && x.Value.Int < 0:
		return 6
	case x.Kind == 3 && x.Op == "-":
		return 6
	case x.Kind == 3:
		return 2
	case x.Kind == 4:
		return map[string]int{"or": 0, "and": 1, "+": 4, "-": 4, "*": 5, "/": 5, "%": 5}[x.Op] + map[string]int{"=": 3, "!=": 3, "<": 3, "<=": 3, ">": 3, ">=": 3}[x.Op]
	}
	return 7
}

// exprText returns the tokens of x in a place where it must bind as close as the least level.
func (w writer) exprText(x expr.Expr, least int) []string {
	if level(x) < least || w.Intn(12) == 0 {
		return enclose(w.exprText(x, 0))
	}
	n := level(x)
	switch x.Kind {
	case 1:
		return []string{x.Name}
	case 2:
		switch {
		case x.Value.Kind == 2:
			return []string{quoted(x.Value.Text)}
		case x.Value.Kind == 0:
			return []string{"null"}
		case x.Value.Int < 0:
			return []string{"-", strconv.Itoa(-x.Value.Int)}
		}
		return []string{strconv.Itoa(x.Value.Int)}
	case 3:
		a := x.Args[0]
		if x.Op == "-" && a.Kind == 2 && a.Value.Kind == 1 && a.Value.Int > 0 {
			// Without them, it would be a negative number.
			return append([]string{"-"}, enclose(w.exprText(a, 0))...)
		}
		return append([]string{x.Op}, w.exprText(a, n)...)
	case 4:
		before := n
		if n == 3 {
			before = n + 1
		}
		return append(append(w.exprText(x.Args[0], before), x.Op), w.exprText(x.Args[1], n+1)...)
	}
	var args []string
	for i, a := range x.Args {
		if i > 0 {
			args = append(args, ",")
		}
		args = append(args, w.exprText(a, 0)...)
	}
	return append([]string{x.Name}, enclose(args)...)
}

func enclose(l []string) []string { return append(append([]string{"("}, l...), ")") }

// join puts tokens together, with what may be between them.
func (w writer) join(l []string) string {
	var b strings.Builder
	for i, s := range l {
		wordly := func(c byte) bool { return c == '_' || c >= '0' && c <= '9' || c >= 'a' && c <= 'z' }
		if i > 0 && wordly(s[0]) && wordly(l[i-1][len(l[i-1])-1]) {
			b.WriteString([]string{" ", "\n", "\t", "#\n"}[w.Intn(4)])
		}
		b.WriteString([]string{"", "", " ", "  ", "\n", "# a;)\n", "\t#\n#\n"}[w.Intn(7)])
		b.WriteString(s)
	}
	return b.String()
}

// P14.2: any expressions are read again, of whatever spacing and parentheses the text has.
func TestRandomExprs(t *testing.T) {
	w := writer{rand.New(rand.NewSource(141))}
	for range 20000 {
		x := w.expr(1 + w.Intn(5))
		s := w.join(w.exprText(x, 0))
		y, at, e := parse.Expr(s)
		if all(y) != all(x) || at != len(s) || e != api.OK {
			t.Fatalf("Expr(%q): %+v, %d, %d, not %+v", s, y, at, e, x)
		}
	}
}

// plan returns a plan of at most so many levels.
func (w writer) plan(levels int) relop.Plan {
	if levels == 1 {
		return scan(w.name())
	}
	p := w.plan(levels - 1)
	switch w.Intn(9) {
	case 0:
		return scan(w.name())
	case 1:
		return where(p, w.expr(3))
	case 2:
		names := w.names(1)
		var exprs []expr.Expr
		for range names {
			exprs = append(exprs, w.expr(3))
		}
		return keep(p, names, exprs...)
	case 3:
		return join(p, w.plan(levels-1), w.pairs()...)
	case 4:
		return left(p, w.plan(levels-1), w.pairs()...)
	case 5:
		var aggs []relop.Agg
		for range w.Intn(4) {
			a := relop.Agg{Op: []string{"count", "sum", "min", "max"}[w.Intn(4)], Name: w.name()}
			if w.Intn(3) > 0 {
				a.Column = w.name()
			}
			aggs = append(aggs, a)
		}
		return group(p, w.names(0), aggs...)
	case 6:
		return unite(p, w.plan(levels-1))
	case 7:
		return distinct(p)
	}
	var by []relop.Order
	for range w.Intn(4) {
		by = append(by, relop.Order{Column: w.name(), Down: w.Intn(2) == 0})
	}
	return first(p, w.number(), by...)
}

func (w writer) pairs() []relop.Pair {
	var l []relop.Pair
	for _, name := range w.names(1) {
		l = append(l, relop.Pair{Left: name, Right: w.name()})
	}
	return l
}

// partText returns the tokens of p as a part.
func (w writer) partText(p relop.Plan) []string {
	if p.Kind != 1 || w.Intn(8) == 0 {
		return enclose(w.planText(p))
	}
	return []string{p.Name}
}

// planText returns the tokens of p as a query.
func (w writer) planText(p relop.Plan) []string {
	if p.Kind == 1 {
		return w.partText(p)
	}
	l := w.planText(p.Args[0])
	if w.Intn(8) == 0 {
		l = enclose(l)
	}
	l = append(l, "|", []string{"", "", "where", "keep", "join", "left", "group", "union", "distinct", "first"}[p.Kind])
	if p.Kind == 2 {
		l = append(l, w.exprText(p.Cond, 0)...)
	}
	var items [][]string
	for i, x := range p.Exprs {
		items = append(items, append(w.exprText(x, 0), "as", p.Names[i]))
	}
	l = append(l, commas(items)...)
	if len(p.Args) == 2 {
		l = append(l, w.partText(p.Args[1])...)
	}
	if len(p.On) > 0 {
		l = append(l, "on")
	}
	for i, pair := range p.On {
		l = append(l, []string{pair.Left, "=", pair.Right, ","}[:4-(i+1)/len(p.On)]...)
	}
	if p.Kind == 6 {
		l = append(append(l, strings.Split(strings.Join(p.Names, "\n,\n"), "\n")...), ":")
		for i, a := range p.Aggs {
			l = append(l, []string{a.Op, "(", a.Column, ")", "as", a.Name, ","}[:7-(i+1)/len(p.Aggs)]...)
		}
	}
	if p.Kind == 9 {
		l = append(l, strconv.Itoa(p.Count))
		items = nil
		for _, o := range p.By {
			items = append(items, append([]string{o.Column}, map[bool][]string{true: {"down"}}[o.Down]...))
		}
		if len(items) > 0 {
			l = append(append(l, "by"), commas(items)...)
		}
	}
	return without(l)
}

// commas puts commas between lists of tokens.
func commas(items [][]string) []string {
	var l []string
	for i, item := range items {
		if i > 0 {
			l = append(l, ",")
		}
		l = append(l, item...)
	}
	return l
}

// without returns the tokens that are not empty.
func without(l []string) []string {
	var m []string
	for _, s := range l {
		if s != "" {
			m = append(m, s)
		}
	}
	return m
}

// P14.2: any plans are read again.
func TestRandomQueries(t *testing.T) {
	w := writer{rand.New(rand.NewSource(142))}
	for range 10000 {
		p := w.plan(1 + w.Intn(4))
		s := w.join(w.planText(p))
		q, at, e := parse.Query(s)
		if all(q) != all(p) || at != len(s) || e != api.OK {
			t.Fatalf("Query(%q): %+v, %d, %d, not %+v", s, q, at, e, p)
		}
	}
}

// def returns a definition, and its tokens.
func (w writer) def() (parse.Def, []string) {
	d := parse.Def{Kind: 1 + w.Intn(3), Name: w.name()}
	l := []string{[]string{"source", "asset", "schedule"}[d.Kind-1], d.Name}
	var items [][]string
	if d.Kind == 3 {
		d.Cron, d.Makes = w.literal(), w.names(1)
		for _, name := range d.Makes {
			items = append(items, []string{name})
		}
		return d, append(append(append(l, quoted(d.Cron), "makes"), commas(items)...), ";")
	}
	d.Scheme = scheme.Scheme{Kind: 1 + w.Intn(5), First: w.number(), Last: w.number()}
	shown := []string{[]string{"hourly", "daily", "weekly", "monthly", "static"}[d.Scheme.Kind-1], strconv.Itoa(d.Scheme.First), "..", strconv.Itoa(d.Scheme.Last)}
	if d.Kind == 1 {
		for _, name := range w.names(1) {
			kind := 1 + w.Intn(2)
			d.Schema = append(d.Schema, schema.Column{Name: name, Type: kind})
			items = append(items, []string{name, []string{"int", "text"}[kind-1]})
		}
		return d, append(append(append(l, enclose(commas(items))...), shown...), ";")
	}
	for _, name := range w.names(1) {
		i := parse.Input{Asset: name, Map: window.Mapping{Kind: 1 + w.Intn(5)}, As: w.name()}
		item := []string{name, []string{"same", "last", "shift", "within", "all"}[i.Map.Kind-1]}
		if i.Map.Kind == 2 || i.Map.Kind == 3 {
			i.Map.N = w.number()
			item = append(item, strconv.Itoa(i.Map.N))
		}
		if i.Map.Kind == 3 && w.Intn(2) == 0 {
			item = append(item[:2], "-", strconv.Itoa(i.Map.N))
			i.Map.N = -i.Map.N
		}
		d.Inputs = append(d.Inputs, i)
		items = append(items, append(item, "as", i.As))
	}
	d.Plan = w.plan(1 + w.Intn(3))
	l = append(append(append(append(l, shown...), "from"), commas(items)...), "do")
	return d, append(append(l, w.planText(d.Plan)...), ";")
}

// P14.1: any definitions are read again, and no token of their text can be left out or told twice without the grammar allowing it.
func TestRandomTexts(t *testing.T) {
	w := writer{rand.New(rand.NewSource(143))}
	for n := range 5000 {
		var defs []parse.Def
		var tokens []string
		for range w.Intn(4) {
			d, l := w.def()
			defs, tokens = append(defs, d), append(tokens, l...)
		}
		s := w.join(tokens)
		l, at, e := parse.Parse(s)
		if all(l) != all(defs) || at != len(s) || e != api.OK {
			t.Fatalf("Parse(%q): %+v, %d, %d, not %+v", s, l, at, e, defs)
		}
		if n%5 == 0 && len(tokens) > 0 {
			i := w.Intn(len(tokens))
			tokens[i] = []string{"", tokens[i] + " " + tokens[i], tokens[w.Intn(len(tokens))]}[w.Intn(3)]
			agrees(t, "text", w.join(without(tokens)))
		}
	}
}
