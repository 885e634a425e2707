package parse_test

import (
	"math/rand"
	"reflect"
	"testing"

	"bywash/expr"
	"bywash/parse"
	"bywash/relop"
	"bywash/schema"
	"bywash/scheme"
	"bywash/window"
)

// full is a definition, of no kind that there is, in which no field is zero.
func full() parse.Def {
	x := binary("+", call("f", col("a"), num(-3), str("b")), unary("-", null()))
	scan := relop.Plan{Kind: 1, Name: "x", Names: []string{"a", "b"}, Count: 1}
	p := relop.Plan{
		Kind: 4, Name: "y", Args: []relop.Plan{scan, where(scan, x)}, Cond: x, Names: []string{"c", "d", "e"}, Exprs: []expr.Expr{x, col("b"), num(1)},
		On: []relop.Pair{{Left: "a", Right: "b"}, {Left: "c", Right: "d"}}, Aggs: []relop.Agg{{Op: "count", Column: "a", Name: "n"}, {Op: "sum", Column: "b", Name: "m"}}, By: []relop.Order{{Column: "a", Down: true}, {Column: "b"}}, Count: 7,
	}
	return parse.Def{
		Kind: 2, Name: "z", Schema: schema.Schema{{Name: "a", Type: 1}, {Name: "b", Type: 2}}, Scheme: scheme.Scheme{Kind: 2, First: 3, Last: 9},
		Inputs: []parse.Input{{Asset: "x", Map: window.Mapping{Kind: 3, N: -1}, As: "v"}, {Asset: "y", Map: window.Mapping{Kind: 2, N: 4}, As: "w"}}, Plan: p, Cron: "0 0 * * *", Makes: []string{"y", "z", "u"},
	}
}

// each visits v with each one change of anything in it, and puts it back.
func each(v reflect.Value, visit func()) {
	old := reflect.New(v.Type()).Elem()
	old.Set(v)
	with := func(x any) {
		v.Set(reflect.ValueOf(x).Convert(v.Type()))
		visit()
		v.Set(old)
	}
	switch v.Kind() {
	case reflect.Int:
		with(int(v.Int() + 1))
		with(int(-v.Int() - 1))
		with(int(v.Int() ^ 1<<32))
	case reflect.Bool:
		with(!v.Bool())
	case reflect.String:
		if v.Len() > 0 {
			with("")
			with(v.String()[1:])
		}
		with(v.String() + "x")
		with(v.String() + "\x00")
	case reflect.Struct:
		for i := range v.NumField() {
			each(v.Field(i), visit)
		}
	case reflect.Slice:
		eachList(v, visit)
	}
}

// eachList visits v with each one change of an element, with elements missing, swapped and doubled, and with one more.
func eachList(v reflect.Value, visit func()) {
	old := reflect.AppendSlice(reflect.MakeSlice(v.Type(), 0, v.Len()+2), v)
	for i := range v.Len() {
		each(v.Index(i), visit)
		v.Set(reflect.AppendSlice(reflect.AppendSlice(reflect.MakeSlice(v.Type(), 0, 0), old.Slice(0, i)), old.Slice(i+1, old.Len())))
		visit()
		v.Set(reflect.AppendSlice(reflect.AppendSlice(reflect.MakeSlice(v.Type(), 0, 0), old.Slice(0, i+1)), old.Slice(i, old.Len())))
		visit()
		v.Set(reflect.AppendSlice(reflect.MakeSlice(v.Type(), 0, 0), old))
		for j := range i {
			if !reflect.DeepEqual(old.Index(i).Interface(), old.Index(j).Interface()) {
				reflect.Swapper(v.Interface())(i, j)
				visit()
				reflect.Swapper(v.Interface())(i, j)
			}
		}
	}
	v.Set(reflect.Append(v, reflect.Zero(v.Type().Elem())))
	visit()
	v.Set(reflect.Zero(v.Type()))
	if old.Len() > 0 {
		visit()
	}
	v.Set(old)
}

// clone returns the same definition in other memory.
func clone(v reflect.Value) reflect.Value {
	c := reflect.New(v.Type()).Elem()
	c.Set(v)
	switch v.Kind() {
	case reflect.Struct:
		for i := range v.NumField() {
			c.Field(i).Set(clone(v.Field(i)))
		}
	case reflect.Slice:
		c.Set(reflect.MakeSlice(v.Type(), 0, v.Len()))
		for i := range v.Len() {
			c.Set(reflect.Append(c, clone(v.Index(i))))
		}
	}
	return c
}

func copied(d parse.Def) parse.Def { return clone(reflect.ValueOf(d)).Interface().(parse.Def) }

// P14.3: equal definitions are equal, and with any one change they are not.
func TestEqual(t *testing.T) {
	w := writer{rand.New(rand.NewSource(145))}
	defs := []parse.Def{full(), {}, {Kind: 1}, asset(scan("x")), {Kind: 3, Name: "s", Makes: []string{"y"}}}
	for range 40 {
		d, _ := w.def()
		defs = append(defs, d)
	}
	for _, d := range defs {
		o := copied(d)
		if !d.Equal(d) || !d.Equal(o) || !o.Equal(d) {
			t.Fatalf("%+v is not equal to itself", d)
		}
		changes := 0
		each(reflect.ValueOf(&o).Elem(), func() {
			changes++
			if d.Equal(o) || o.Equal(d) {
				t.Fatalf("%+v is equal to %+v", d, o)
			}
		})
		if all(d) != all(o) || !d.Equal(o) || changes < 20 {
			t.Fatalf("%d changes of %+v", changes, d)
		}
	}
	for i, d := range defs {
		for j, o := range defs {
			if d.Equal(o) != (all(d) == all(o)) {
				t.Errorf("%d and %d: %t, %+v, %+v", i, j, d.Equal(o), d, o)
			}
		}
	}
}

// P14.3: nil and empty lists are equal, wherever they are.
func TestEqualEmpty(t *testing.T) {
	empty := parse.Def{Schema: schema.Schema{}, Inputs: []parse.Input{}, Makes: []string{}, Plan: relop.Plan{
		Args: []relop.Plan{}, Cond: expr.Expr{Args: []expr.Expr{}}, Names: []string{}, Exprs: []expr.Expr{}, On: []relop.Pair{}, Aggs: []relop.Agg{}, By: []relop.Order{},
	}}
	if !empty.Equal(parse.Def{}) || !(parse.Def{}).Equal(empty) {
		t.Error("nil and empty lists are not equal")
	}
	a, b := asset(scan("x")), asset(scan("x"))
	a.Plan.Args, b.Plan.Names, b.Makes, b.Schema = []relop.Plan{}, []string{}, []string{}, schema.Schema{}
	if !a.Equal(b) || !b.Equal(a) {
		t.Error("nil and empty lists within a definition are not equal")
	}
}

// P14.1, P14.3: Parse of two texts that differ in their spacing and parentheses alone returns equal definitions, and of others it does not.
func TestEqualParsed(t *testing.T) {
	texts := []string{"asset y static 0..0 from x same as x do x|where a;", "asset y static 0..0 from x same as x do (x|where (a));", "asset  y static 0 .. 0 from x same as x do ( x )|where(( a ))#\n;"}
	others := []string{"asset y static 0..0 from x same as x do x|where b;", "asset y static 0..1 from x same as x do x|where a;", "asset z static 0..0 from x same as x do x|where a;", "asset y daily 0..0 from x same as x do x|where a;", "asset y static 0..0 from x all as x do x|where a;", "asset y static 0..0 from x same as z do x|where a;", "asset y static 0..0 from z same as x do x|where a;", "asset y static 0..0 from x same as x do z|where a;", "asset y static 0..0 from x same as x do x|where a|where a;", "asset y static 0..0 from x same as x do x;"}
	def := func(s string) parse.Def {
		l, _, _ := parse.Parse(s)
		if len(l) != 1 {
			t.Fatalf("Parse(%q): %+v", s, l)
		}
		return l[0]
	}
	for _, s := range texts {
		for _, o := range texts {
			if !def(s).Equal(def(o)) {
				t.Errorf("%q and %q are not equal", s, o)
			}
		}
		for _, o := range others {
			if def(s).Equal(def(o)) || def(o).Equal(def(s)) {
				t.Errorf("%q and %q are equal", s, o)
			}
		}
	}
}

// P14.3: Equal doesn't modify its arguments, nor their spare capacity.
func TestEqualKeeps(t *testing.T) {
	d, o := full(), full()
	spread(reflect.ValueOf(&d).Elem())
	spread(reflect.ValueOf(&o).Elem())
	before, beforeSpare := all(d), spares(reflect.ValueOf(d))
	for range 3 {
		if !d.Equal(o) || d.Equal(parse.Def{}) || (parse.Def{}).Equal(d) {
			t.Fatal("Equal")
		}
	}
	if all(d) != before || all(o) != before || spares(reflect.ValueOf(d)) != beforeSpare || spares(reflect.ValueOf(o)) != beforeSpare {
		t.Error("Equal modified an argument")
	}
}
