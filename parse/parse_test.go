package parse_test

import (
	"fmt"
	"strconv"
	"strings"
	"testing"

	"bywash/api"
	"bywash/expr"
	"bywash/parse"
	"bywash/relop"
	"bywash/schema"
	"bywash/scheme"
	"bywash/value"
	"bywash/window"
)

// These are the expressions of the kinds.
func col(name string) expr.Expr              { return expr.Expr{Kind: 1, Name: name} }
func num(n int) expr.Expr                    { return expr.Expr{Kind: 2, Value: value.Value{Kind: 1, Int: n}} }
func str(s string) expr.Expr                 { return expr.Expr{Kind: 2, Value: value.Value{Kind: 2, Text: s}} }
func null() expr.Expr                        { return expr.Expr{Kind: 2} }
func unary(op string, a expr.Expr) expr.Expr { return expr.Expr{Kind: 3, Op: op, Args: []expr.Expr{a}} }
func binary(op string, a, b expr.Expr) expr.Expr {
	return expr.Expr{Kind: 4, Op: op, Args: []expr.Expr{a, b}}
}
func call(name string, args ...expr.Expr) expr.Expr {
	return expr.Expr{Kind: 5, Name: name, Args: args}
}
func scan(name string) relop.Plan { return relop.Plan{Kind: 1, Name: name} }
func where(p relop.Plan, x expr.Expr) relop.Plan {
	return relop.Plan{Kind: 2, Args: []relop.Plan{p}, Cond: x}
}
func distinct(p relop.Plan) relop.Plan { return relop.Plan{Kind: 8, Args: []relop.Plan{p}} }
func unite(p, q relop.Plan) relop.Plan { return relop.Plan{Kind: 7, Args: []relop.Plan{p, q}} }
func join(p, q relop.Plan, on ...relop.Pair) relop.Plan {
	return relop.Plan{Kind: 4, Args: []relop.Plan{p, q}, On: on}
}
func left(p, q relop.Plan, on ...relop.Pair) relop.Plan {
	return relop.Plan{Kind: 5, Args: []relop.Plan{p, q}, On: on}
}
func first(p relop.Plan, n int, by ...relop.Order) relop.Plan {
	return relop.Plan{Kind: 9, Args: []relop.Plan{p}, Count: n, By: by}
}
func keep(p relop.Plan, names []string, exprs ...expr.Expr) relop.Plan {
	return relop.Plan{Kind: 3, Args: []relop.Plan{p}, Names: names, Exprs: exprs}
}
func group(p relop.Plan, names []string, aggs ...relop.Agg) relop.Plan {
	return relop.Plan{Kind: 6, Args: []relop.Plan{p}, Names: names, Aggs: aggs}
}

// asset is the definition of an asset with this plan.
func asset(p relop.Plan) parse.Def {
	return parse.Def{Kind: 2, Name: "y", Scheme: scheme.Scheme{Kind: 5}, Inputs: []parse.Input{{Asset: "x", Map: window.Mapping{Kind: 1}, As: "x"}}, Plan: p}
}

// all is the text of everything in a value, for which nil and empty lists are one.
func all(x any) string { return fmt.Sprintf("%+v %q", x, x) }

// parses holds Parse, which must return these definitions.
func parses(t *testing.T, s string, defs ...parse.Def) {
	t.Helper()
	l, at, e := parse.Parse(s)
	if all(l) != all(defs) || at != len(s) || e != api.OK {
		t.Errorf("Parse(%q): %+v, %d, %d, not %+v", s, l, at, e, defs)
	}
}

// plans holds Query, which must return this plan, as a definition with this query must have.
func plans(t *testing.T, s string, p relop.Plan) {
	t.Helper()
	q, at, e := parse.Query(s)
	if all(q) != all(p) || at != len(s) || e != api.OK {
		t.Errorf("Query(%q): %+v, %d, %d, not %+v", s, q, at, e, p)
	}
	parses(t, "asset y static 0..0 from x same as x do "+s+"\n;", asset(p))
}

// reads holds Expr, which must return this expression, as the steps of a query with this expr must have.
func reads(t *testing.T, s string, x expr.Expr) {
	t.Helper()
	y, at, e := parse.Expr(s)
	if all(y) != all(x) || at != len(s) || e != api.OK {
		t.Errorf("Expr(%q): %+v, %d, %d, not %+v", s, y, at, e, x)
	}
	plans(t, "x|where "+s, where(scan("x"), x))
	plans(t, "x|keep "+s+" as b,"+s+" as c", keep(scan("x"), []string{"b", "c"}, x, x))
}

// fails holds a call for a text in which `^` stands ahead of the token at which the error is. The text is held against the grammar, too.
func fails(t *testing.T, rule, s string, want api.Errno) {
	t.Helper()
	wantAt := strings.Index(s, "^")
	s = strings.Replace(s, "^", "", 1)
	at, e, none := answer(rule, s)
	if at != wantAt || e != want || !none {
		t.Errorf("%s %q: %d, %d, %t, not %d, %d", rule, s, at, e, none, wantAt, want)
	}
	agrees(t, rule, s)
}

// P14.1, P14.2: the chapter's examples.
func TestExamples(t *testing.T) {
	parses(t, "source x (a int) static 0..0;", parse.Def{Kind: 1, Name: "x", Schema: schema.Schema{{Name: "a", Type: 1}}, Scheme: scheme.Scheme{Kind: 5}})
	plans(t, "x | where a > 1 | keep a * 2 as b", keep(where(scan("x"), binary(">", col("a"), num(1))), []string{"b"}, binary("*", col("a"), num(2))))
}

// P14.1: texts without definitions.
func TestEmpty(t *testing.T) {
	for _, s := range []string{"", " ", "\n", "\t", "#", "# source x (a int) static 0..0;", "#\n", " \n\t# a\n # b \n\n", strings.Repeat(" ", api.MaxSource), strings.Repeat("#\n", api.MaxSource/2)} {
		parses(t, s)
		at, e, none := answer("query", s)
		if at != len(s) || e != api.ErrWord || !none {
			t.Errorf("Query(%.20q): %d, %d", s, at, e)
		}
		at, e, none = answer("expr", s)
		if at != len(s) || e != api.ErrWord || !none {
			t.Errorf("Expr(%.20q): %d, %d", s, at, e)
		}
	}
}

// P14.1: sources, with columns of both kinds, one and many, and all schemes.
func TestSources(t *testing.T) {
	parses(t, "source x(a text,b int,c text)daily 3..5;", parse.Def{Kind: 1, Name: "x", Schema: schema.Schema{{Name: "a", Type: 2}, {Name: "b", Type: 1}, {Name: "c", Type: 2}}, Scheme: scheme.Scheme{Kind: 2, First: 3, Last: 5}})
	parses(t, "source x (int int, text text) static 0..0;", parse.Def{Kind: 1, Name: "x", Schema: schema.Schema{{Name: "int", Type: 1}, {Name: "text", Type: 2}}, Scheme: scheme.Scheme{Kind: 5}})
	var columns []string
	var s schema.Schema
	for i := range 300 {
		name := "c" + strconv.Itoa(i)
		columns = append(columns, name+" int")
		s = append(s, schema.Column{Name: name, Type: 1})
	}
	// What is no valid schema is a text all the same.
	parses(t, "source x ("+strings.Join(columns, ", ")+") static 0..0;", parse.Def{Kind: 1, Name: "x", Schema: s, Scheme: scheme.Scheme{Kind: 5}})
	parses(t, "source x (a int, a int, a text) static 0..0;", parse.Def{Kind: 1, Name: "x", Schema: schema.Schema{{Name: "a", Type: 1}, {Name: "a", Type: 1}, {Name: "a", Type: 2}}, Scheme: scheme.Scheme{Kind: 5}})
	for kind, word := range []string{"hourly", "daily", "weekly", "monthly", "static"} {
		for _, first := range []int{0, 1, 2, 10, 1 << 20, 1<<63 - 1} {
			for _, last := range []int{0, 1, 2, 511, 1<<63 - 1} {
				parses(t, fmt.Sprintf("source x (a int) %s %d..%d;", word, first, last), parse.Def{Kind: 1, Name: "x", Schema: schema.Schema{{Name: "a", Type: 1}}, Scheme: scheme.Scheme{Kind: kind + 1, First: first, Last: last}})
				d := asset(scan("x"))
				d.Scheme = scheme.Scheme{Kind: kind + 1, First: first, Last: last}
				parses(t, fmt.Sprintf("asset y %s %d .. %d from x same as x do x;", word, first, last), d)
			}
		}
	}
	for _, s := range []string{
		"^a", "^(", "^;", "^x (a int) static 0..0;", "^sources x (a int) static 0..0;", `^"source" x (a int) static 0..0;`, "^from x", "^1",
		"source^", "source ^(a int) static 0..0;", "source ^1 (a int) static 0..0;", `source ^"x" (a int) static 0..0;`, "source x^", "source x ^static 0..0;", "source x ^a int static 0..0;", "source x ^, (a int) static 0..0;", "source x ^x (a int) static 0..0;", "source source ^x (a int) static 0..0;",
		"source x (^", "source x (^) static 0..0;", "source x (^, a int) static 0..0;", "source x (^1 int) static 0..0;", "source x (^(a int) static 0..0;", "source x (a^", "source x (a^) static 0..0;", "source x (a^, b int) static 0..0;", "source x (a ^a int) static 0..0;", "source x (a ^float) static 0..0;", `source x (a ^"int") static 0..0;`, "source x (a ^2) static 0..0;", "source x (a int^", "source x (a int ^b int) static 0..0;", "source x (a int ^int) static 0..0;", "source x (a int ^text) static 0..0;", "source x (a int,^", "source x (a int,^) static 0..0;", "source x (a int,^, b int) static 0..0;", "source x (a int^; b int) static 0..0;", "source x (a int ^static 0..0;", "source x (a int)^", "source x (a int)^) static 0..0;",
		"source x (a int) ^0..0;", "source x (a int)^;", "source x (a int) ^yearly 0..0;", `source x (a int) ^"static" 0..0;`, "source x (a int) ^same 0..0;", "source x (a int) static^", "source x (a int) static ^static 0..0;", "source x (a int) static ^..0;", "source x (a int) static ^-1..0;", "source x (a int) static ^a..0;", "source x (a int) static 0^", "source x (a int) static 0 ^0..0;", "source x (a int) static 0^;", "source x (a int) static 0 ^- 1;", "source x (a int) static 0..^", "source x (a int) static 0..^;", "source x (a int) static 0..^..0;", "source x (a int) static 0..^-1;", "source x (a int) static 0..^a;", `source x (a int) static 0..^"0";`,
		"source x (a int) static 0..0^", "source x (a int) static 0..0 # ;\n^", "source x (a int) static 0..0 ^0;", "source x (a int) static 0..0^..0;", "source x (a int) static 0..0 ^from x same as x do x;", "source x (a int) static 0..0^, static 1..1;", "source x (a int) static 0..0;^;", "source x (a int) static 0..0; ^x (a int) static 0..0;", "source x (a int) static 0..0 ^source x (a int) static 0..0;",
	} {
		fails(t, "text", s, api.ErrWord)
	}
}

// P14.1: assets, with one input and several, and all mappings.
func TestAssets(t *testing.T) {
	d := asset(scan("w"))
	d.Inputs = []parse.Input{{Asset: "a", Map: window.Mapping{Kind: 1}, As: "b"}, {Asset: "c", Map: window.Mapping{Kind: 2, N: 3}, As: "d"}, {Asset: "e", Map: window.Mapping{Kind: 3, N: 4}, As: "f"}, {Asset: "g", Map: window.Mapping{Kind: 3, N: -5}, As: "h"}, {Asset: "i", Map: window.Mapping{Kind: 4}, As: "j"}, {Asset: "k", Map: window.Mapping{Kind: 5}, As: "l"}}
	parses(t, "asset y static 0..0 from a same as b, c last 3 as d, e shift 4 as f, g shift -5 as h, i within as j, k all as l do w;", d)
	d.Inputs = []parse.Input{{Asset: "x", Map: window.Mapping{Kind: 1}, As: "x"}, {Asset: "x", Map: window.Mapping{Kind: 1}, As: "x"}}
	parses(t, "asset y static 0..0 from x same as x,x same as x do w;", d)
	for _, n := range []int{0, 1, 2, 511, 512, 513, 1 << 31, 1<<63 - 2, 1<<63 - 1} {
		for s, m := range map[string]window.Mapping{"last %d": {Kind: 2, N: n}, "shift %d": {Kind: 3, N: n}, "shift -%d": {Kind: 3, N: -n}, "shift - %d": {Kind: 3, N: -n}, "shift#\n-#\n%d": {Kind: 3, N: -n}} {
			d.Inputs = []parse.Input{{Asset: "x", Map: m, As: "x"}}
			parses(t, "asset y static 0..0 from x "+fmt.Sprintf(s, n)+" as x do w;", d)
		}
	}
	for kind, word := range []string{"same", "last 1", "shift 1", "within", "all"} {
		n := strings.Count(word, "1")
		for _, name := range []string{"same", "last", "shift", "within", "all", "as", "from", "do", "asset"} {
			d.Inputs = []parse.Input{{Asset: name, Map: window.Mapping{Kind: kind + 1, N: n}, As: name}}
			parses(t, "asset y static 0..0 from "+name+" "+word+" as "+name+" do w;", d)
		}
	}
	for _, s := range []string{
		"asset^", "asset ^1 static 0..0 from x same as x do x;", `asset ^"y" static 0..0 from x same as x do x;`, "asset y^", "asset y ^(a int) static 0..0 from x same as x do x;", "asset y ^from x same as x do x;", "asset y ^y static 0..0 from x same as x do x;", "asset y static ^from x same as x do x;", "asset y static 0 ^from x same as x do x;", "asset y static 0..^from x same as x do x;",
		"asset y static 0..0^", "asset y static 0..0^;", "asset y static 0..0 ^x same as x do x;", "asset y static 0..0 ^do x;", "asset y static 0..0 from^", "asset y static 0..0 from ^, x same as x do x;", "asset y static 0..0 from ^1 same as x do x;", "asset y static 0..0 from ^;", "asset y static 0..0 from do ^x;", "asset y static 0..0 from x^", "asset y static 0..0 from x ^as x do x;", "asset y static 0..0 from x ^x same as x do x;", "asset y static 0..0 from x ^daily as x do x;", "asset y static 0..0 from x ^, z same as x do x;", "asset y static 0..0 from x ^do x;",
		"asset y static 0..0 from x same^", "asset y static 0..0 from x same ^1 as x do x;", "asset y static 0..0 from x same ^same as x do x;", "asset y static 0..0 from x same ^x do x;", "asset y static 0..0 from x last^", "asset y static 0..0 from x last ^as x do x;", "asset y static 0..0 from x last ^-1 as x do x;", "asset y static 0..0 from x last 1 ^1 as x do x;", "asset y static 0..0 from x shift^", "asset y static 0..0 from x shift ^as x do x;", "asset y static 0..0 from x shift -^", "asset y static 0..0 from x shift - ^as x do x;", "asset y static 0..0 from x shift -^-1 as x do x;", "asset y static 0..0 from x shift ^+1 as x do x;", "asset y static 0..0 from x shift 1 ^- 1 as x do x;", "asset y static 0..0 from x within ^1 as x do x;", "asset y static 0..0 from x all ^1 as x do x;",
		"asset y static 0..0 from x same as^", "asset y static 0..0 from x same as ^1 do x;", "asset y static 0..0 from x same as ^, z same as z do x;", "asset y static 0..0 from x same as do ^x;", "asset y static 0..0 from x same as as ^x do x;", "asset y static 0..0 from x same as x^", "asset y static 0..0 from x same as x ^z same as z do x;", "asset y static 0..0 from x same as x,^", "asset y static 0..0 from x same as x, do ^x;", "asset y static 0..0 from x same as x,^, z same as z do x;", "asset y static 0..0 from x same as x^;", "asset y static 0..0 from x same as x ^x;", "asset y static 0..0 from x same as x do^", "asset y static 0..0 from x same as x do^;", "asset y static 0..0 from x same as x do do^", "asset y static 0..0 from x same as x do do ^x;", "asset y static 0..0 from x same as x do x^", "asset y static 0..0 from x same as x do x ^x;", "asset y static 0..0 from x same as x do x^, x;", "asset y static 0..0 from x same as x do x;^;", "asset y static 0..0 from x same as x do x; ^do x;",
	} {
		fails(t, "text", s, api.ErrWord)
	}
}

// P14.1: schedules of one asset and of several, with any text.
func TestSchedules(t *testing.T) {
	parses(t, `schedule s "0 0 * * *" makes y;`, parse.Def{Kind: 3, Name: "s", Cron: "0 0 * * *", Makes: []string{"y"}})
	parses(t, `schedule s"*"makes y,z,y;`, parse.Def{Kind: 3, Name: "s", Cron: "*", Makes: []string{"y", "z", "y"}})
	parses(t, `schedule schedule "" makes makes,schedule;`, parse.Def{Kind: 3, Name: "schedule", Makes: []string{"makes", "schedule"}})
	parses(t, `schedule s "a\"b\\" makes y;`, parse.Def{Kind: 3, Name: "s", Cron: `a"b\`, Makes: []string{"y"}})
	parses(t, `schedule s "`+strings.Repeat("0", 64)+`" makes y;`, parse.Def{Kind: 3, Name: "s", Cron: strings.Repeat("0", 64), Makes: []string{"y"}})
	parses(t, "schedule s \"\" makes y"+strings.Repeat(", z", 300)+";", parse.Def{Kind: 3, Name: "s", Makes: append([]string{"y"}, strings.Split(strings.Repeat("z", 300), "")...)})
	for _, s := range []string{
		"schedule^", `schedule ^"" makes y;`, `schedule ^1 "" makes y;`, "schedule s^", "schedule s ^makes y;", `schedule s ^s "" makes y;`, `schedule s ^0 0 makes y;`, `schedule s ^, "" makes y;`, `schedule s ""^`, `schedule s "" ^"" makes y;`, `schedule s "" ^y;`, `schedule s ""^;`, `schedule s "" ^make y;`, `schedule s "" ^"makes" y;`, `schedule s "" makes^`, `schedule s "" makes^;`, `schedule s "" makes ^1;`, `schedule s "" makes ^"y";`, `schedule s "" makes ^, y;`, `schedule s "" makes makes ^y;`, `schedule s "" makes y^`, `schedule s "" makes y ^z;`, `schedule s "" makes y,^`, `schedule s "" makes y,^;`, `schedule s "" makes y,^, z;`, `schedule s "" makes y, z^`, `schedule s "" makes y; ^makes y;`, `schedule s "" makes y ^schedule s "" makes y;`,
	} {
		fails(t, "text", s, api.ErrWord)
	}
}

// P14.1: several definitions, of all kinds, in order.
func TestSeveral(t *testing.T) {
	texts := []string{"source x (a int) static 0..0;", "asset y static 0..0 from x same as x do x;", `schedule s "*" makes y;`}
	defs := []parse.Def{{Kind: 1, Name: "x", Schema: schema.Schema{{Name: "a", Type: 1}}, Scheme: scheme.Scheme{Kind: 5}}, asset(scan("x")), {Kind: 3, Name: "s", Cron: "*", Makes: []string{"y"}}}
	for i := range 3 {
		parses(t, texts[i], defs[i])
		for j := range 3 {
			parses(t, texts[i]+texts[j], defs[i], defs[j])
			for k := range 3 {
				parses(t, texts[i]+" "+texts[j]+"# \n"+texts[k]+"#", defs[i], defs[j], defs[k])
				fails(t, "text", texts[i]+texts[j]+texts[k][:len(texts[k])-1]+"^", api.ErrWord)
				fails(t, "text", texts[i]+texts[j][:len(texts[j])-1]+" ^"+texts[k], api.ErrWord)
				fails(t, "text", texts[i]+"^;"+texts[j]+";"+texts[k], api.ErrWord)
			}
		}
	}
}

// words are all words of the grammar.
var words = []string{"source", "asset", "schedule", "int", "text", "hourly", "daily", "weekly", "monthly", "static", "from", "do", "as", "same", "last", "shift", "within", "all", "makes", "where", "keep", "join", "left", "on", "group", "union", "distinct", "first", "by", "count", "sum", "min", "max", "down", "or", "and", "not", "null"}

// P14.1, P14.2: each word of the grammar is a name, too, wherever it can only be one.
func TestWordsAsNames(t *testing.T) {
	for _, w := range words {
		x := scan(w)
		parses(t, fmt.Sprintf("source %s (%s int, %s text) static 0..0;", w, w, w), parse.Def{Kind: 1, Name: w, Schema: schema.Schema{{Name: w, Type: 1}, {Name: w, Type: 2}}, Scheme: scheme.Scheme{Kind: 5}})
		parses(t, fmt.Sprintf("schedule %s \"\" makes %s, %s;", w, w, w), parse.Def{Kind: 3, Name: w, Makes: []string{w, w}})
		d := asset(x)
		d.Name, d.Inputs = w, []parse.Input{{Asset: w, Map: window.Mapping{Kind: 3, N: -1}, As: w}, {Asset: w, Map: window.Mapping{Kind: 1}, As: w}}
		parses(t, fmt.Sprintf("asset %s static 0..0 from %s shift -1 as %s, %s same as %s do %s;", w, w, w, w, w, w), d)
		plans(t, w, x)
		plans(t, w+"|join "+w+" on "+w+"="+w+","+w+"="+w, join(x, x, relop.Pair{Left: w, Right: w}, relop.Pair{Left: w, Right: w}))
		plans(t, w+"|left "+w+" on "+w+"="+w, left(x, x, relop.Pair{Left: w, Right: w}))
		plans(t, w+"|union "+w, unite(x, x))
		plans(t, w+"|group "+w+","+w+":count("+w+")as "+w+",sum("+w+")as "+w, group(x, []string{w, w}, relop.Agg{Op: "count", Column: w, Name: w}, relop.Agg{Op: "sum", Column: w, Name: w}))
		plans(t, w+"|first 1 by "+w+" down,"+w, first(x, 1, relop.Order{Column: w, Down: true}, relop.Order{Column: w}))
		plans(t, w+"|keep 1 as "+w+", 2 as "+w, keep(x, []string{w, w}, num(1), num(2)))
		reads(t, "1+"+w+"(1, 2)", binary("+", num(1), call(w, num(1), num(2))))
		if w != "not" {
			reads(t, w+"(a)", call(w, col("a")))
		}
		if strings.Contains(" and or not null ", " "+w+" ") {
			continue
		}
		reads(t, w, col(w))
		reads(t, w+"+"+w, binary("+", col(w), col(w)))
		reads(t, "not "+w, unary("not", col(w)))
		plans(t, w+"|where "+w+" and "+w+"|keep "+w+" as "+w, keep(where(x, binary("and", col(w), col(w))), []string{w}, col(w)))
	}
}

// P14.2: `and`, `or` and `not` are no columns of an expr, and `null` is a constant.
func TestWordsAsColumns(t *testing.T) {
	reads(t, "null", null())
	reads(t, "null = null", binary("=", null(), null()))
	reads(t, "-null", unary("-", null()))
	reads(t, "not null and null or null", binary("or", binary("and", unary("not", null()), null()), null()))
	reads(t, "f(null)", call("f", null()))
	reads(t, "(null)", null())
	reads(t, "nul", col("nul"))
	reads(t, "nulls", col("nulls"))
	reads(t, "nota", col("nota"))
	reads(t, "not1", col("not1"))
	reads(t, "and_", col("and_"))
	reads(t, "ora or b", binary("or", col("ora"), col("b")))
	for _, s := range []string{
		"^and", "^or", "not^", "^and and a", "^or or a", "not ^and", "not ^or", "not not^", "not not ^and b", "a and ^and", "a or ^or", "a and ^or b", "a or ^and b", "a and not^", "a + ^and", "a + ^or", "a + ^not", "a + ^not b", "a = ^not b", "a = ^and", "-^and", "-^or", "-^not", "- ^not a", "-(not^)", "(^and)", "(^or)", "(not^)", "f(^and)", "f(a, ^or)", "f(not^)", "a * ^not b", "a - ^not", "null ^null", "null ^a", "a ^null", "null ^not a", "a ^not b",
	} {
		fails(t, "expr", strings.Replace(s, "null ^null", "null ^null", 1), api.ErrWord)
	}
}

// P14.2: each step, with what is optional and without, and what follows another step.
func TestSteps(t *testing.T) {
	x, y := scan("x"), scan("y")
	ab, cd := relop.Pair{Left: "a", Right: "b"}, relop.Pair{Left: "c", Right: "d"}
	plans(t, "x", x)
	plans(t, "(x)", x)
	plans(t, "((x))", x)
	plans(t, "x|where a", where(x, col("a")))
	plans(t, "x|where a|where b", where(where(x, col("a")), col("b")))
	plans(t, "(x|where a)|where b", where(where(x, col("a")), col("b")))
	plans(t, "((x|where a)|where b)", where(where(x, col("a")), col("b")))
	plans(t, "x|keep a as b", keep(x, []string{"b"}, col("a")))
	plans(t, "x|keep a as b,c+d as e,1 as f", keep(x, []string{"b", "e", "f"}, col("a"), binary("+", col("c"), col("d")), num(1)))
	plans(t, "x|keep as as as,as as as", keep(x, []string{"as", "as"}, col("as"), col("as")))
	plans(t, "x|keep f(a,b) as c,d as e", keep(x, []string{"c", "e"}, call("f", col("a"), col("b")), col("d")))
	plans(t, "x|join y on a=b", join(x, y, ab))
	plans(t, "x|left y on a=b", left(x, y, ab))
	plans(t, "x|join y on a=b,c=d", join(x, y, ab, cd))
	plans(t, "x|left y on c=d,a=b,c=d", left(x, y, cd, ab, cd))
	plans(t, "x|join (y) on a=b", join(x, y, ab))
	plans(t, "x|join (y|distinct) on a=b|distinct", distinct(join(x, distinct(y), ab)))
	plans(t, "(x|distinct)|left (y|distinct|where a) on a=b", left(distinct(x), where(distinct(y), col("a")), ab))
	plans(t, "x|join (y|join (z|join x on a=b) on c=d) on a=b", join(x, join(y, join(scan("z"), x, ab), cd), ab))
	plans(t, "x|join y on a=b|join y on c=d", join(join(x, y, ab), y, cd))
	plans(t, "x|group:", group(x, nil))
	plans(t, "x|group a:", group(x, []string{"a"}))
	plans(t, "x|group a,b,a:", group(x, []string{"a", "b", "a"}))
	plans(t, "x|group:count()as n", group(x, nil, relop.Agg{Op: "count", Name: "n"}))
	plans(t, "x|group a:count(b)as n", group(x, []string{"a"}, relop.Agg{Op: "count", Column: "b", Name: "n"}))
	plans(t, "x|group a:sum(b)as s,min(c)as t,max(d)as u,count()as v,sum()as w,min()as w,max()as w|distinct", distinct(group(x, []string{"a"}, relop.Agg{Op: "sum", Column: "b", Name: "s"}, relop.Agg{Op: "min", Column: "c", Name: "t"}, relop.Agg{Op: "max", Column: "d", Name: "u"}, relop.Agg{Op: "count", Name: "v"}, relop.Agg{Op: "sum", Name: "w"}, relop.Agg{Op: "min", Name: "w"}, relop.Agg{Op: "max", Name: "w"})))
	plans(t, "x|group:|group count:|distinct", distinct(group(group(x, nil), []string{"count"})))
	plans(t, "x|union y", unite(x, y))
	plans(t, "x|union (y)|union (y|union x)", unite(unite(x, y), unite(y, x)))
	plans(t, "x|distinct", distinct(x))
	plans(t, "x|distinct|distinct", distinct(distinct(x)))
	plans(t, "x|first 0", first(x, 0))
	plans(t, "x|first 9223372036854775807", first(x, 1<<63-1))
	plans(t, "x|first 1 by a", first(x, 1, relop.Order{Column: "a"}))
	plans(t, "x|first 2 by a down", first(x, 2, relop.Order{Column: "a", Down: true}))
	plans(t, "x|first 3 by a,b down,c,a down|first 4", first(first(x, 3, relop.Order{Column: "a"}, relop.Order{Column: "b", Down: true}, relop.Order{Column: "c"}, relop.Order{Column: "a", Down: true}), 4))
	plans(t, "x|first 1 by down", first(x, 1, relop.Order{Column: "down"}))
	plans(t, "x|first 1 by down down,by", first(x, 1, relop.Order{Column: "down", Down: true}, relop.Order{Column: "by"}))
}

// P14.2: queries that are none, and where.
func TestNoQuery(t *testing.T) {
	for _, s := range []string{
		"^", "^1", `^"x"`, "^|distinct", "^)", "^;", "x ^x", "x^;", "x^, x", "x^)", "x ^distinct", "x ^where a", "x ^1", "(^", "(^)", "(^|distinct)", "(x^", "(x ^x)", "(x^;", "(x)^)", "(x) ^x", "(x) ^distinct", "(x)^(x)", "((x)^", "x ^(x)", "x|^", "x|^|distinct", "x|^x", "x|^1", "x|^(x)", "x|^)", "x|^count", "x|^by", `x|^"where"`,
		"x|where^", "x|where^|distinct", "x|where ^)", "x|where a ^b", "x|where a^,b", "x|where a ^as b", "x|where a^)", "(x|where a^", "(x|where (a)^",
		"x|keep^", "x|keep ^, a as b", "x|keep a^", "x|keep a^, b as c", "x|keep a ^b", "x|keep a as^", "x|keep a as ^1", "x|keep a as^, b as c", "x|keep as ^a", "x|keep a as b ^c as d", "x|keep a as b,^", "x|keep a as b,^, c as d", "x|keep a as b, c^", "x|keep a as b,^|distinct", "x|keep a as b^)", "x|keep a as b ^as c",
		"x|join^", "x|join ^1 on a=b", "x|join ^|distinct", "x|join y^", "x|join on ^a=b", "x|join y ^a=b", "x|join y ^where a", "x|join y^|distinct on a=b", "x|join y on^", "x|join y on ^1=b", "x|join y on ^=b", "x|join y on a^", "x|join y on a ^b", "x|join y on a^!=b", "x|join y on a^+b", "x|join y on a=^", "x|join y on a=^=b", "x|join y on a=^1", "x|join y on a=b ^c=d", "x|join y on a=b^=c", "x|join y on a=b,^", "x|join y on a=b,^|distinct", "x|join y on a=b,c^", "x|join y on a=b^)", "x|join (^) on a=b", "x|join (y ^on a=b)", "x|join (y)^", "x|left^", "x|left y^", "x|left y on^", "x|left y on a^", "x|left y on a=^", "x|left y on a=b,^", "x|left (^", "x|left ^, y on a=b",
		"x|group^", "x|group ^1:", "x|group ^, a:", "x|group a^", "x|group a ^b:", "x|group a,^", "x|group a,^:", "x|group a^|distinct", "x|group^()as n", "x|group count^()as n", "x|group:^:", "x|group:^, count()as n", "x|group: ^a", "x|group: ^avg(a)as b", "x|group: ^1", `x|group: ^"count"(a)as b`, "x|group:count^", "x|group:count ^a", "x|group:count ^as n", "x|group:count(^", "x|group:count(^1)as n", "x|group:count(^(a))as n", "x|group:count(a^", "x|group:count(a^,b)as n", "x|group:count(a ^a)as n", "x|group:sum(a^+1)as n", "x|group:sum(^-a)as n", "x|group:count()^", "x|group:count() ^n", "x|group:count()^,sum(a)as b", "x|group:count()as^", "x|group:count()as ^1", "x|group:count()as n ^m", "x|group:count()as n ^sum(a)as m", "x|group:count()as n,^", "x|group:count()as n,^|distinct", "x|group:count()as n,^a", "x|group a:count()as n^:", "x|group:count()as n^)",
		"x|union^", "x|union ^1", "x|union ^|distinct", "x|union y ^y", "x|union y^,y", "x|union y ^on a=b", "x|union y^(y)", "x|union (^)", "x|union (y^", "x|distinct ^a", "x|distinct ^distinct", "x|distinct^(x)", "x|distinct ^1",
		"x|first^", "x|first ^a", "x|first ^by a", "x|first ^-1", "x|first ^|distinct", "x|first 1 ^1", "x|first 1 ^a", "x|first 1 ^down", "x|first 1^, 2", "x|first 1 by^", "x|first 1 by ^1", "x|first 1 by ^, a", "x|first 1 by^|distinct", "x|first 1 by a ^b", "x|first 1 by a ^by b", "x|first 1 by a down ^down", "x|first 1 by a down ^b", "x|first 1 by a,^", "x|first 1 by a,^|distinct", "x|first 1 by a,^, b", "x|first 1 by a^+b", "x|first 1 by ^-a", "x|first 1 by ^(a)", "x|first 1 by a ^up", "x|first 1 by by ^by",
	} {
		fails(t, "query", s, api.ErrWord)
	}
}
