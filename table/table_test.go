package table_test

import (
	"hash/fnv"
	"math"
	"math/rand"
	"slices"
	"strconv"
	"strings"
	"testing"

	"bywash/api"
	"bywash/schema"
	"bywash/table"
	"bywash/value"
)

// one is a schema of one column of integers, two one of a string beside it, and texts one of strings alone.
func one() schema.Schema   { return schema.Schema{{Name: "a", Type: 1}} }
func two() schema.Schema   { return schema.Schema{{Name: "id", Type: 1}, {Name: "name", Type: 2}} }
func texts() schema.Schema { return schema.Schema{{Name: "s", Type: 2}, {Name: "t", Type: 2}} }

// columns returns n valid columns, all different, of both types in turn.
func columns(n int) schema.Schema {
	var s schema.Schema
	for i := range n {
		s = append(s, schema.Column{Name: "c" + strconv.Itoa(i), Type: 1 + i%2})
	}
	return s
}

// ints returns a row for each of these integers.
func ints(l ...int) [][]value.Value {
	var rows [][]value.Value
	for _, n := range l {
		rows = append(rows, []value.Value{value.Of(n)})
	}
	return rows
}

// upTo returns the rows 0 to n - 1 of one integer each.
func upTo(n int) [][]value.Value {
	var rows [][]value.Value
	for i := range n {
		rows = append(rows, []value.Value{value.Of(i)})
	}
	return rows
}

// pair returns a row of an integer and a string.
func pair(n int, s string) []value.Value { return []value.Value{value.Of(n), value.Text(s)} }

// ordered lists rows that fit two, each before those that follow it.
func ordered() [][]value.Value {
	var l [][]value.Value
	ids := []value.Value{value.Null(), value.Of(math.MinInt), value.Of(-2), value.Of(-1), value.Of(0), value.Of(2), value.Of(10), value.Of(math.MaxInt)}
	names := []value.Value{
		value.Null(), value.Text(""), value.Text(" "), value.Text("10"), value.Text("9"), value.Text("A"), value.Text("a"), value.Text("a, b"),
		value.Text("aa"), value.Text("b"), value.Text(strings.Repeat("~", api.MaxText)),
	}
	for _, id := range ids {
		for _, name := range names {
			l = append(l, []value.Value{id, name})
		}
	}
	return l
}

// misfits lists rows that do not fit two.
func misfits() [][]value.Value {
	return [][]value.Value{
		nil, {value.Of(1)}, {value.Null()}, {value.Text("a")}, {value.Of(1), value.Text("a"), value.Null()},
		{value.Text("a"), value.Of(1)}, {value.Of(1), value.Of(1)}, {value.Text("a"), value.Text("a")},
		{value.Of(1), value.Text("\n")}, {value.Of(1), value.Text("\x7f")}, {value.Of(1), value.Text(strings.Repeat("a", api.MaxText+1))},
		{{Kind: 3}, value.Null()}, {{Kind: -1}, value.Null()}, {{Int: 1}, value.Null()}, {value.Null(), {Text: "a"}},
		{{Kind: 1, Text: "a"}, value.Null()}, {value.Null(), {Kind: 2, Int: 1}}, make([]value.Value, api.MaxColumns+1),
	}
}

// wrongSchemas lists schemas that are not valid, with the error of Check.
func wrongSchemas() map[api.Errno][]schema.Schema {
	return map[api.Errno][]schema.Schema{
		api.ErrMany:  {nil, {}, columns(api.MaxColumns + 1), make(schema.Schema, 1<<10)},
		api.ErrName:  {{{Type: 1}}, {{Name: "A", Type: 1}}, {{Name: "a", Type: 1}, {Name: "b c", Type: 1}}},
		api.ErrType:  {{{Name: "a"}}, {{Name: "a", Type: 3}}, {{Name: "a", Type: 1}, {Name: "b", Type: -1}}},
		api.ErrTwice: {{{Name: "a", Type: 1}, {Name: "a", Type: 2}}, {{Name: "a", Type: 1}, {Name: "b", Type: 1}, {Name: "a", Type: 1}}},
	}
}

// sameRows holds rows against each other, one by one.
func sameRows(a, b [][]value.Value) bool {
	if len(a) != len(b) {
		return false
	}
	for i := range a {
		if !slices.Equal(a[i], b[i]) {
			return false
		}
	}
	return true
}

// same reports whether t has exactly this schema and these rows.
func same(t table.Table, s schema.Schema, rows [][]value.Value) bool {
	return slices.Equal(t.Schema, s) && sameRows(t.Rows, rows)
}

// none reports whether t is the zero table.
func none(t table.Table) bool { return len(t.Schema) == 0 && len(t.Rows) == 0 }

// deep returns the same rows in memory of their own.
func deep(rows [][]value.Value) [][]value.Value {
	var l [][]value.Value
	for _, r := range rows {
		l = append(l, append([]value.Value{}, r...))
	}
	return l
}

// shuffled returns the same rows in some other order, which is the same for each run.
func shuffled(rows [][]value.Value, seed int64) [][]value.Value {
	l := deep(rows)
	rand.New(rand.NewSource(seed)).Shuffle(len(l), func(i, k int) { l[i], l[k] = l[k], l[i] })
	return l
}

// made returns a table that must be valid.
func made(t *testing.T, s schema.Schema, rows [][]value.Value) table.Table {
	t.Helper()
	x, e := table.Make(s, rows)
	if e != api.OK {
		t.Fatalf("Make of %v and %d rows: %d", s, len(rows), e)
	}
	return x
}

// tables lists valid tables, all different.
func tables(t *testing.T) []table.Table {
	t.Helper()
	all := ordered()
	l := []table.Table{
		made(t, one(), nil), made(t, two(), nil), made(t, texts(), nil), made(t, columns(api.MaxColumns), nil),
		made(t, schema.Schema{{Name: "a", Type: 2}}, nil), made(t, schema.Schema{{Name: "b", Type: 1}}, nil),
		made(t, one(), ints(1)), made(t, one(), ints(2)), made(t, one(), ints(1, 1)), made(t, one(), ints(1, 2)), made(t, one(), ints(1, 2, 2)),
		made(t, one(), ints(1, 1, 2)), made(t, one(), ints(-1, math.MinInt, math.MaxInt, 0)), made(t, one(), [][]value.Value{{value.Null()}}),
		made(t, schema.Schema{{Name: "b", Type: 1}}, ints(1)), made(t, one(), upTo(api.MaxRows)), made(t, one(), upTo(api.MaxRows-1)),
		made(t, one(), slices.Repeat(ints(7), api.MaxRows)),
		made(t, two(), all), made(t, two(), all[1:]), made(t, two(), all[:len(all)-1]), made(t, two(), slices.Concat(all, all)),
		made(t, schema.Schema{{Name: "a", Type: 2}}, [][]value.Value{{value.Null()}}),
		made(t, schema.Schema{{Name: "a", Type: 2}}, [][]value.Value{{value.Text("")}}),
		made(t, schema.Schema{{Name: "a", Type: 2}}, [][]value.Value{{value.Text("null")}}),
		made(t, schema.Schema{{Name: "a", Type: 2}}, [][]value.Value{{value.Text("1")}}),
		made(t, columns(api.MaxColumns), [][]value.Value{make([]value.Value, api.MaxColumns)}),
		made(t, texts(), tricky()), made(t, texts(), tricky()[1:]),
	}
	return l
}

// tricky lists rows of strings whose texts hold what separates values, rows and columns, in order.
func tricky() [][]value.Value {
	l := []string{"", " ", "\"", "\", \"", "\"\"", ")", "(a int)", ",", ", ", ", null", "\\", "\\\"", "\\\", ", "\\\\", "\\n", "a, b", "a\", \"b", "null", "~"}
	slices.Sort(l)
	var rows [][]value.Value
	for _, a := range l {
		for _, b := range l {
			rows = append(rows, []value.Value{value.Text(a), value.Text(b)})
		}
	}
	return rows
}

// P3.1: Make sorts any rows, and keeps each as often as it is there.
func TestMake(t *testing.T) {
	all := ordered()
	many := slices.Concat(all[:3], all[2:9], all[8:], all[len(all)-1:], all[len(all)-1:])
	for _, want := range [][][]value.Value{nil, {}, all[:1], all[1:2], all[:2], all[3:5], all, many} {
		for seed := range int64(20) {
			x, e := table.Make(two(), shuffled(want, seed))
			if e != api.OK || !same(x, two(), want) {
				t.Fatalf("Make of %v: %v, %d", shuffled(want, seed), x, e)
			}
			if e := x.Check(); e != api.OK {
				t.Fatalf("Check of the result of Make: %d", e)
			}
		}
	}
	x, e := table.Make(one(), [][]value.Value{{value.Of(2)}, {value.Null()}, {value.Of(2)}})
	if e != api.OK || !same(x, one(), [][]value.Value{{value.Null()}, {value.Of(2)}, {value.Of(2)}}) {
		t.Errorf("Make of 2, null, 2: %v, %d", x, e)
	}
}

// P3.1: every two rows, in either order, and the same row some times.
func TestMakePairs(t *testing.T) {
	all := ordered()
	for i, a := range all {
		for k, b := range all {
			want := [][]value.Value{a, b, b}
			if i > k {
				want = [][]value.Value{b, b, a}
			}
			for _, rows := range [][][]value.Value{{a, b, b}, {b, a, b}, {b, b, a}} {
				if x, e := table.Make(two(), rows); e != api.OK || !same(x, two(), want) {
					t.Fatalf("Make of %v: %v, %d", rows, x, e)
				}
			}
		}
	}
}

// P3.1: as many rows as there may be, and more.
func TestMakeMany(t *testing.T) {
	for n := api.MaxRows - 2; n <= api.MaxRows; n++ {
		rows := upTo(n)
		slices.Reverse(rows)
		if x, e := table.Make(one(), rows); e != api.OK || !same(x, one(), upTo(n)) {
			t.Errorf("Make of %d rows: %d rows, %d", n, len(x.Rows), e)
		}
		if x, e := table.Make(one(), slices.Repeat(ints(7), n)); e != api.OK || !same(x, one(), slices.Repeat(ints(7), n)) {
			t.Errorf("Make of %d rows that are the same: %d rows, %d", n, len(x.Rows), e)
		}
	}
	for _, n := range []int{api.MaxRows + 1, api.MaxRows + 2, 1 << 16} {
		if x, e := table.Make(one(), upTo(n)); e != api.ErrMany || !none(x) {
			t.Errorf("Make of %d rows: %d", n, e)
		}
		if x, e := table.Make(one(), slices.Repeat(ints(7), n)); e != api.ErrMany || !none(x) {
			t.Errorf("Make of %d rows that are the same: %d", n, e)
		}
	}
}

// P3.1: rows that do not fit, at any place.
func TestMakeMisfit(t *testing.T) {
	for _, m := range misfits() {
		for _, rows := range [][][]value.Value{{m}, {m, pair(1, "a")}, {pair(1, "a"), m}, {pair(2, "a"), m, pair(1, "a")}, {m, m}} {
			if x, e := table.Make(two(), rows); e != api.ErrType || !none(x) {
				t.Errorf("Make of %v: %v, %d", rows, x, e)
			}
			if e := (table.Table{Schema: two(), Rows: rows}).Check(); e != api.ErrType {
				t.Errorf("Check of %v: %d", rows, e)
			}
		}
		for _, at := range []int{0, 1, api.MaxRows / 2, api.MaxRows - 1} {
			rows := slices.Repeat([][]value.Value{pair(1, "a")}, api.MaxRows)
			rows[at] = m
			if x, e := table.Make(two(), rows); e != api.ErrType || !none(x) {
				t.Errorf("Make with %v at %d: %d", m, at, e)
			}
		}
	}
}

// P3.1: the errors, in their order: schema, number of rows, their fit, and, for Check, their order.
func TestErrorOrder(t *testing.T) {
	tooMany := slices.Repeat([][]value.Value{pair(1, "a")}, api.MaxRows+1)
	manyWrong := slices.Concat([][]value.Value{nil}, tooMany)
	unsorted := [][]value.Value{pair(2, "a"), pair(1, "a")}
	wrongUnsorted := [][]value.Value{pair(2, "a"), pair(1, "a"), {value.Of(1)}}
	manyUnsorted := slices.Concat(unsorted, tooMany)
	for e, l := range wrongSchemas() {
		for _, s := range l {
			for _, rows := range [][][]value.Value{nil, {}, {nil}, unsorted, wrongUnsorted, tooMany, manyWrong, {make([]value.Value, len(s))}} {
				if x, f := table.Make(s, rows); f != e || !none(x) {
					t.Errorf("Make of %.99v and %d rows: %d, want %d", s, len(rows), f, e)
				}
				if f := (table.Table{Schema: s, Rows: rows}).Check(); f != e {
					t.Errorf("Check of %.99v and %d rows: %d, want %d", s, len(rows), f, e)
				}
			}
		}
	}
	for _, c := range []struct {
		rows        [][]value.Value
		make, check api.Errno
	}{
		{tooMany, api.ErrMany, api.ErrMany}, {manyWrong, api.ErrMany, api.ErrMany}, {manyUnsorted, api.ErrMany, api.ErrMany},
		{wrongUnsorted, api.ErrType, api.ErrType}, {unsorted, api.OK, api.ErrForm}, {unsorted[:1], api.OK, api.OK}, {nil, api.OK, api.OK},
		{tooMany[1:], api.OK, api.OK}, {manyWrong[:2], api.ErrType, api.ErrType},
	} {
		if _, e := table.Make(two(), c.rows); e != c.make {
			t.Errorf("Make of %d rows: %d, want %d", len(c.rows), e, c.make)
		}
		if e := (table.Table{Schema: two(), Rows: c.rows}).Check(); e != c.check {
			t.Errorf("Check of %d rows: %d, want %d", len(c.rows), e, c.check)
		}
	}
}

// P3.1: Check finds any two neighbours that are out of order, and nothing else.
func TestCheckOrder(t *testing.T) {
	all := ordered()
	for i, a := range all {
		for k, b := range all {
			want := api.OK
			if i > k {
				want = api.ErrForm
			}
			if e := (table.Table{Schema: two(), Rows: [][]value.Value{a, b}}).Check(); e != want {
				t.Errorf("Check of %v, %v: %d", a, b, e)
			}
		}
	}
	for at := range len(all) - 1 {
		rows := deep(all)
		rows[at], rows[at+1] = rows[at+1], rows[at]
		if e := (table.Table{Schema: two(), Rows: rows}).Check(); e != api.ErrForm {
			t.Errorf("Check with %d and the next one swapped: %d", at, e)
		}
		rows[at] = rows[at+1]
		if e := (table.Table{Schema: two(), Rows: rows}).Check(); e != api.OK {
			t.Errorf("Check with %d twice: %d", at, e)
		}
	}
	last := upTo(api.MaxRows)
	last[api.MaxRows-1] = last[0]
	if e := (table.Table{Schema: one(), Rows: last}).Check(); e != api.ErrForm {
		t.Errorf("Check with the last row out of order: %d", e)
	}
	for _, x := range tables(t) {
		if e := x.Check(); e != api.OK {
			t.Errorf("Check of %v: %d", x.Schema, e)
		}
	}
	if e := (table.Table{}).Check(); e != api.ErrMany {
		t.Errorf("Check of the zero table: %d", e)
	}
}

// P3.1: equal tables, schema and rows, valid or not.
func TestEqual(t *testing.T) {
	l := append(tables(t),
		table.Table{}, table.Table{Rows: ints(1)}, table.Table{Schema: one(), Rows: ints(2, 1)}, table.Table{Schema: one(), Rows: ints(1, 2, 1)},
		table.Table{Schema: two(), Rows: ints(1)}, table.Table{Schema: one(), Rows: [][]value.Value{nil}}, table.Table{Schema: one(), Rows: [][]value.Value{nil, nil}},
		table.Table{Schema: one(), Rows: [][]value.Value{{{Kind: 1, Int: 1, Text: "a"}}}}, table.Table{Schema: one(), Rows: [][]value.Value{{{Int: 1}}}},
		table.Table{Schema: one(), Rows: [][]value.Value{{{Kind: 3, Int: 1}}}}, table.Table{Schema: one(), Rows: [][]value.Value{{value.Of(1), value.Of(1)}}},
	)
	for i, a := range l {
		for k, b := range l {
			b = table.Table{Schema: append(schema.Schema{}, b.Schema...), Rows: deep(b.Rows)}
			if got := a.Equal(b); got != (i == k) {
				t.Errorf("Equal of %d and %d: %v", i, k, got)
			}
		}
	}
	a := table.Table{Schema: one(), Rows: [][]value.Value{{}}}
	b := table.Table{Schema: one(), Rows: [][]value.Value{nil}}
	if !a.Equal(b) || !b.Equal(a) || !(table.Table{}).Equal(table.Table{Schema: schema.Schema{}, Rows: [][]value.Value{}}) {
		t.Errorf("Equal of nil and empty: false")
	}
	base := made(t, one(), upTo(api.MaxRows))
	for _, at := range []int{0, 1, api.MaxRows - 1} {
		other := table.Table{Schema: one(), Rows: upTo(api.MaxRows)}
		other.Rows[at][0] = value.Null()
		if base.Equal(other) || other.Equal(base) {
			t.Errorf("Equal of tables that differ at %d: true", at)
		}
	}
}

// P3.1: valid tables have the same rows as often exactly if they are equal.
func TestEqualMade(t *testing.T) {
	rows := ordered()[:40]
	rows = slices.Concat(rows, rows[5:9], rows[7:8])
	x := made(t, two(), rows)
	for seed := range int64(30) {
		if y := made(t, two(), shuffled(rows, seed)); !x.Equal(y) {
			t.Errorf("Equal of the same rows: false")
		}
		if y := made(t, two(), shuffled(rows, seed)[1:]); x.Equal(y) {
			t.Errorf("Equal of a row less: true")
		}
	}
}

// P3.1: how often a row is there.
func TestCount(t *testing.T) {
	all := ordered()
	var rows [][]value.Value
	for i, r := range all {
		rows = append(rows, slices.Repeat([][]value.Value{r}, i%4)...)
	}
	x := made(t, two(), rows)
	for i, r := range all {
		if n := x.Count(append([]value.Value{}, r...)); n != i%4 {
			t.Errorf("Count of %v: %d, want %d", r, n, i%4)
		}
	}
	for _, r := range append(misfits(), pair(5, "a"), pair(2, "a "), pair(2, "ab"), pair(-3, "")) {
		if n := x.Count(r); n != 0 {
			t.Errorf("Count of %v: %d", r, n)
		}
	}
	same := made(t, one(), slices.Repeat(ints(7), api.MaxRows))
	each := made(t, one(), upTo(api.MaxRows))
	empty := made(t, one(), nil)
	if same.Count(ints(7)[0]) != api.MaxRows || same.Count(ints(6)[0]) != 0 || same.Count(nil) != 0 || empty.Count(ints(7)[0]) != 0 || empty.Count(nil) != 0 {
		t.Errorf("Count")
	}
	for _, n := range []int{0, 1, 2047, 2048, api.MaxRows - 1} {
		if each.Count(ints(n)[0]) != 1 {
			t.Errorf("Count of %d: %d", n, each.Count(ints(n)[0]))
		}
	}
	if each.Count(ints(-1)[0]) != 0 || each.Count(ints(api.MaxRows)[0]) != 0 {
		t.Errorf("Count of a row outside")
	}
}

// P3.1: the same table, valid or not.
func TestCopy(t *testing.T) {
	l := append(tables(t),
		table.Table{}, table.Table{Rows: ints(2, 1)}, table.Table{Schema: one(), Rows: misfits()}, table.Table{Schema: make(schema.Schema, 20)},
		table.Table{Schema: one(), Rows: upTo(api.MaxRows + 1)}, table.Table{Schema: one(), Rows: [][]value.Value{nil, {}}},
	)
	for i, x := range l {
		if y := x.Copy(); !same(y, x.Schema, x.Rows) {
			t.Errorf("Copy of %d: %v", i, y)
		}
	}
}

// P3.2: the rows of both, with the sums of their multiplicities.
func TestUnion(t *testing.T) {
	all := ordered()
	for seed := range int64(40) {
		mixed := shuffled(slices.Concat(all, all, all[:20]), seed)
		at := int(seed) * len(mixed) / 39
		a, b, both := made(t, two(), mixed[:at]), made(t, two(), mixed[at:]), made(t, two(), mixed)
		x, e := a.Union(b)
		y, f := b.Union(a)
		if e != api.OK || f != api.OK || !same(x, two(), both.Rows) || !same(y, two(), both.Rows) {
			t.Fatalf("Union of %d and %d rows: %d, %d", len(a.Rows), len(b.Rows), e, f)
		}
		for _, r := range all {
			if x.Count(r) != a.Count(r)+b.Count(r) {
				t.Fatalf("Union has %v %d times", r, x.Count(r))
			}
		}
	}
	x := made(t, one(), ints(3, 1, 2, 2))
	empty := made(t, one(), nil)
	for _, c := range []struct {
		a, b table.Table
		want [][]value.Value
	}{
		{x, empty, ints(1, 2, 2, 3)}, {empty, x, ints(1, 2, 2, 3)}, {empty, empty, nil}, {x, x, ints(1, 1, 2, 2, 2, 2, 3, 3)},
		{made(t, one(), ints(5)), x, ints(1, 2, 2, 3, 5)}, {made(t, one(), ints(2)), x, ints(1, 2, 2, 2, 3)},
	} {
		if y, e := c.a.Union(c.b); e != api.OK || !same(y, one(), c.want) {
			t.Errorf("Union of %v and %v: %v, %d", c.a, c.b, y, e)
		}
	}
}

// P3.2: as many rows as there may be, and one more.
func TestUnionMany(t *testing.T) {
	for _, n := range []int{0, 1, api.MaxRows / 2, api.MaxRows - 1, api.MaxRows} {
		a, b := made(t, one(), upTo(n)), made(t, one(), upTo(api.MaxRows)[n:])
		if x, e := b.Union(a); e != api.OK || !same(x, one(), upTo(api.MaxRows)) {
			t.Errorf("Union of %d and %d rows: %d rows, %d", api.MaxRows-n, n, len(x.Rows), e)
		}
	}
	for _, n := range []int{1, 2, api.MaxRows / 2, api.MaxRows} {
		a, b := made(t, one(), upTo(n)), made(t, one(), upTo(api.MaxRows+1-n))
		if x, e := b.Union(a); e != api.ErrMany || !none(x) {
			t.Errorf("Union of %d and %d rows: %d rows, %d", len(b.Rows), n, len(x.Rows), e)
		}
	}
	full := made(t, one(), slices.Repeat(ints(7), api.MaxRows))
	if x, e := full.Union(full); e != api.ErrMany || !none(x) {
		t.Errorf("Union of twice as many rows as there may be: %d", e)
	}
}

// P3.2: the errors of Union, in their order.
func TestUnionErrors(t *testing.T) {
	full := made(t, one(), slices.Repeat(ints(7), api.MaxRows))
	other := made(t, schema.Schema{{Name: "b", Type: 1}}, slices.Repeat(ints(7), api.MaxRows))
	single := made(t, one(), ints(7))
	l := []struct {
		t table.Table
		e api.Errno
	}{
		{table.Table{}, api.ErrMany}, {table.Table{Schema: schema.Schema{{Name: "A", Type: 1}}}, api.ErrName},
		{table.Table{Schema: schema.Schema{{Name: "a", Type: 1}, {Name: "a", Type: 1}}}, api.ErrTwice},
		{table.Table{Schema: schema.Schema{{Name: "a"}}}, api.ErrType}, {table.Table{Schema: one(), Rows: upTo(api.MaxRows + 1)}, api.ErrMany},
		{table.Table{Schema: one(), Rows: [][]value.Value{pair(1, "a")}}, api.ErrType}, {table.Table{Schema: one(), Rows: ints(2, 1)}, api.ErrForm},
	}
	for _, a := range l {
		for _, b := range []table.Table{single, full, other} {
			if x, e := a.t.Union(b); e != a.e || !none(x) {
				t.Errorf("Union of an invalid table and a valid one: %d, want %d", e, a.e)
			}
			if x, e := b.Union(a.t); e != a.e || !none(x) {
				t.Errorf("Union of a valid table and an invalid one: %d, want %d", e, a.e)
			}
		}
		for _, b := range l {
			if x, e := a.t.Union(b.t); e != a.e || !none(x) {
				t.Errorf("Union of two invalid tables: %d, want %d", e, a.e)
			}
		}
	}
	for _, s := range []schema.Schema{{{Name: "b", Type: 1}}, {{Name: "a", Type: 2}}, two(), append(one(), schema.Column{Name: "b", Type: 1})} {
		for _, b := range []table.Table{made(t, s, nil), made(t, s, [][]value.Value{make([]value.Value, len(s))})} {
			if x, e := single.Union(b); e != api.ErrType || !none(x) {
				t.Errorf("Union of schemas that differ: %d", e)
			}
			if x, e := b.Union(single); e != api.ErrType || !none(x) {
				t.Errorf("Union of schemas that differ: %d", e)
			}
		}
	}
	if x, e := full.Union(other); e != api.ErrType || !none(x) {
		t.Errorf("Union of many rows of schemas that differ: %d", e)
	}
	swapped := made(t, schema.Schema{two()[1], two()[0]}, nil)
	if x, e := made(t, two(), nil).Union(swapped); e != api.ErrType || !none(x) {
		t.Errorf("Union of columns in another order: %d", e)
	}
}

// P3.2: the values of a column, row by row.
func TestColumn(t *testing.T) {
	for _, x := range tables(t) {
		for at, c := range x.Schema {
			var want []value.Value
			for _, r := range x.Rows {
				want = append(want, r[at])
			}
			if l, e := x.Column(c.Name); e != api.OK || !slices.Equal(l, want) {
				t.Errorf("Column(%q) of %v: %v, %d", c.Name, x.Schema, l, e)
			}
		}
		for _, name := range []string{"", "x", "A", "a ", "c16", "id,", "id int", strings.Repeat("a", 1<<12)} {
			if l, e := x.Column(name); e != api.ErrName || len(l) != 0 {
				t.Errorf("Column(%.99q) of %v: %v, %d", name, x.Schema, l, e)
			}
		}
	}
	for e, l := range wrongSchemas() {
		for _, s := range l {
			x := table.Table{Schema: s, Rows: [][]value.Value{make([]value.Value, len(s))}}
			for _, name := range []string{"a", "A", "", "zz"} {
				if l, f := x.Column(name); f != e || len(l) != 0 {
					t.Errorf("Column(%q) of %.99v: %v, %d, want %d", name, s, l, f, e)
				}
			}
		}
	}
	for e, rows := range map[api.Errno][][]value.Value{api.ErrMany: upTo(api.MaxRows + 1), api.ErrType: append(ints(1), pair(2, "a")), api.ErrForm: ints(2, 1)} {
		for _, name := range []string{"a", "b"} {
			if l, f := (table.Table{Schema: one(), Rows: rows}).Column(name); f != e || len(l) != 0 {
				t.Errorf("Column(%q) of an invalid table: %d values, %d, want %d", name, len(l), f, e)
			}
		}
	}
}

// written returns tables with their texts, written out.
func written() map[string]table.Table {
	return map[string]table.Table{
		"(a int)\n":                    {Schema: one()},
		"(a int)\nnull\n2\n2\n":        {Schema: one(), Rows: [][]value.Value{{value.Null()}, {value.Of(2)}, {value.Of(2)}}},
		"(a int)\n-10\n-9\n0\n9\n10\n": {Schema: one(), Rows: ints(-10, -9, 0, 9, 10)},
		"(a int)\n-9223372036854775808\n9223372036854775807\n": {Schema: one(), Rows: ints(math.MinInt, math.MaxInt)},
		"(id int, name text)\n":                                {Schema: two()},
		"(id int, name text)\nnull, null\nnull, \"\"\n7, \"null\"\n7, \"x\"\n": {Schema: two(), Rows: [][]value.Value{
			{value.Null(), value.Null()}, {value.Null(), value.Text("")}, pair(7, "null"), pair(7, "x"),
		}},
		"(s text, t text)\n\" !~\", \"\\\\n\"\n\"\\\"\", \"\\\\\"\n\", \", \",\"\n\"\\\\\", \"\\\", \\\"\"\n\"a\", \"1\"\n\"a, b\", null\n": {Schema: texts(), Rows: [][]value.Value{
			{value.Text(" !~"), value.Text("\\n")}, {value.Text("\""), value.Text("\\")}, {value.Text(", "), value.Text(",")},
			{value.Text("\\"), value.Text("\", \"")}, {value.Text("a"), value.Text("1")}, {value.Text("a, b"), value.Null()},
		}},
	}
}

// P3.3: the text of a table, and its inverse.
func TestText(t *testing.T) {
	for text, x := range written() {
		if got := x.Show(); got != text {
			t.Errorf("Show of %v: %q, want %q", x, got, text)
		}
		if y, e := table.Parse(text); e != api.OK || !same(y, x.Schema, x.Rows) {
			t.Errorf("Parse(%q): %v, %d", text, y, e)
		}
	}
}

// reckoned is the text that the document asks for, of a valid table.
func reckoned(x table.Table) string {
	lines := []string{x.Schema.Show()}
	for _, r := range x.Rows {
		var l []string
		for _, v := range r {
			l = append(l, v.Show())
		}
		lines = append(lines, strings.Join(l, ", "))
	}
	return strings.Join(lines, "\n") + "\n"
}

// P3.3: all tables, up to the largest ones.
func TestTextAll(t *testing.T) {
	widest := made(t, columns(api.MaxColumns), nil)
	for n := range api.MaxRows {
		var r []value.Value
		for i := range api.MaxColumns {
			if i%2 == 0 {
				r = append(r, value.Of(math.MinInt+n))
			} else {
				r = append(r, value.Text(strings.Repeat(", ", api.MaxText/2)))
			}
		}
		widest.Rows = append(widest.Rows, r)
	}
	for _, x := range append(tables(t), widest) {
		text := x.Show()
		if want := reckoned(x); text != want {
			t.Errorf("Show of %v: %.99q, want %.99q", x.Schema, text, want)
		}
		if y, e := table.Parse(text); e != api.OK || !same(y, x.Schema, x.Rows) {
			t.Errorf("Parse(%.99q): %d rows, %d", text, len(y.Rows), e)
		}
	}
}

// P3.3: an invalid table has no text.
func TestShowWrong(t *testing.T) {
	l := []table.Table{
		{}, {Schema: one(), Rows: ints(2, 1)}, {Schema: one(), Rows: ints(1, 2, 1)}, {Schema: one(), Rows: upTo(api.MaxRows + 1)}, {Rows: ints(1)},
		{Schema: two(), Rows: [][]value.Value{pair(1, "b"), pair(1, "a")}},
	}
	for _, r := range misfits() {
		l = append(l, table.Table{Schema: two(), Rows: [][]value.Value{r}}, table.Table{Schema: two(), Rows: [][]value.Value{pair(0, ""), r}})
	}
	for _, m := range wrongSchemas() {
		for _, s := range m {
			l = append(l, table.Table{Schema: s})
		}
	}
	for _, x := range l {
		if text := x.Show(); text != "" {
			t.Errorf("Show of %.99v: %q", x, text)
		}
	}
}

// P3.3: what is no table's text.
func TestParseWrong(t *testing.T) {
	full := made(t, one(), slices.Repeat(ints(7), api.MaxRows)).Show()
	l := []string{
		"", "\n", "\n\n", " ", "1\n", "null\n", "(a int)", "(a int) \n", " (a int)\n", "\n(a int)\n", "(a int)\r\n", "()\n", "(a int, a int)\n", "(A int)\n",
		"(a int)\n\n", "(a int)\n\n1\n", "(a int)\n1", "(a int)\n1\n2", "(a int)\n1\n\n", "(a int)\n1\n\n2\n", "(a int)\n1\r\n", "(a int)\n1 \n", "(a int)\n 1\n",
		"(a int)1\n", "(a int)\n1 2\n", "(a int)\n1,\n", "(a int)\n1, \n", "(a int)\n, \n", "(a int)\n, 1\n", "(a int)\n1, 2\n", "(a int)\n1\n1, 1\n",
		"(a int)\n2\n1\n", "(a int)\n1\n3\n2\n", "(a int)\n1\nnull\n", "(a int)\n10\n9\n", "(a int)\n-1\n-2\n", "(a int)\n\"1\"\n", "(a int)\n+1\n", "(a int)\n01\n",
		"(a int)\n-0\n", "(a int)\n0x1\n", "(a int)\n1_0\n", "(a int)\n9223372036854775808\n", "(a int)\nNull\n", "(a int)\nnul\n", "(a int)\nnulls\n",
		"(a int)\n(a int)\n", "(a int)\n1\x00\n", "(a int)\n\x00\n", "(a int)\nx\n",
		"(a text)\n1\n", "(a text)\na\n", "(a text)\n\"\n", "(a text)\n\"a\n", "(a text)\na\"\n", "(a text)\n\"a\"b\n", "(a text)\n\"a\"\"b\"\n", "(a text)\n\"a\" \n",
		"(a text)\n\"\"\"\n", "(a text)\n\"\\\"\n", "(a text)\n\"\\a\"\n", "(a text)\n\"\\n\"\n", "(a text)\n\"a\nb\"\n", "(a text)\n\"\n\"\n", "(a text)\n\"\t\"\n",
		"(a text)\n\"\x7f\"\n", "(a text)\n\"\xff\"\n", "(a text)\n\"\u00e9\"\n", "(a text)\n'a'\n", "(a text)\n\"a\", \n", "(a text)\n\"b\"\n\"a\"\n",
		"(a text)\n\"\"\nnull\n", "(a text)\n\"" + strings.Repeat("a", api.MaxText+1) + "\"\n",
		"(a int, b text)\n1\n", "(a int, b text)\n1, \n", "(a int, b text)\n1,\"a\"\n", "(a int, b text)\n1,  \"a\"\n", "(a int, b text)\n1 , \"a\"\n",
		"(a int, b text)\n1 \"a\"\n", "(a int, b text)\n1, \"a\"", "(a int, b text)\n1, \"a\", \n", "(a int, b text)\n1, \"a\", null\n", "(a int, b text)\n\"a\", 1\n",
		"(a int, b text)\n1, a\n", "(a int, b text)\n1\n\"a\"\n", "(a int, b text)\n1; \"a\"\n", "(a int, b text)\n(1, \"a\")\n", "(a int, b text)\n1, \"a\n",
		"(a int, b text)\n1, \"a, null\n", "(a int, b text)\n1\", \"a\"\n", "(a int, b text)\n, \"a\"\n", "(a int, b text)\nnull\n",
		full + "7\n", full + "8\n", full + "\n", full[:len(full)-1], full + full, strings.Replace(full, "7", "8", 1), full + strings.Repeat("7\n", 1<<16),
		strings.Repeat("(", 1<<16), strings.Repeat("\n", 1<<16), "(a int)\n" + strings.Repeat("\n", 1<<16), "(a int)\n" + strings.Repeat("1, ", 1<<16) + "\n",
		"(a text)\n" + strings.Repeat("\"", 1<<16) + "\n", "(a text)\n" + strings.Repeat("\\", 1<<16) + "\n", "(a text)\n\"" + strings.Repeat("\\", 1<<16) + "\"\n",
		"(a text)\n" + strings.Repeat("\"\", ", 1<<16) + "\n", "(a int)\n" + strings.Repeat("9", 1<<16) + "\n",
	}
	for _, s := range l {
		if x, e := table.Parse(s); e != api.ErrForm || !none(x) {
			t.Errorf("Parse(%.99q): %.99v, %d", s, x, e)
		}
	}
}

// P3.3: a text that differs from a table's by one byte is parsed only if it is another table's.
func TestParseNear(t *testing.T) {
	check := func(s string) {
		x, e := table.Parse(s)
		if e == api.OK && (x.Check() != api.OK || reckoned(x) != s) || e != api.OK && (!none(x) || e != api.ErrForm) {
			t.Errorf("Parse(%q): %v, %d", s, x, e)
		}
	}
	for text := range written() {
		for i := range len(text) + 1 {
			check(text[:i])
			check(text[i:])
			for _, c := range []byte("a0-+\"\\, ()\n\r\t\x00\x1f\x7f\xff") {
				check(text[:i] + string([]byte{c}) + text[i:])
				if i < len(text) {
					check(text[:i] + string([]byte{c}) + text[i+1:])
				}
			}
			if i < len(text) {
				check(text[:i] + text[i+1:])
				check(text[:i] + text[i:i+1] + text[i:])
			}
		}
	}
}

// P3.3: among all short strings of the parts of a text, Parse answers the texts of tables, and nothing else.
func TestParseAll(t *testing.T) {
	parts := []string{"\n", ", ", ",", " ", "1", "2", "null", "\"", "\\", "a"}
	for _, s := range []schema.Schema{one(), {{Name: "b", Type: 2}}, two()} {
		head := s.Show() + "\n"
		words, found := []string{""}, 0
		for range 5 {
			var next []string
			for _, w := range words {
				for _, p := range parts {
					next = append(next, w+p)
				}
			}
			words = next
			for _, w := range words {
				x, e := table.Parse(head + w)
				if e == api.OK {
					found++
				}
				if e == api.OK && (x.Check() != api.OK || reckoned(x) != head+w) || e != api.OK && (e != api.ErrForm || !none(x)) {
					t.Fatalf("Parse(%q): %v, %d", head+w, x, e)
				}
			}
		}
		if found < 10 {
			t.Errorf("%d texts of tables among the words after %q", found, head)
		}
	}
}

// P3.4: the digest of bytes.
func TestDigest(t *testing.T) {
	for s, want := range map[string]uint64{
		"": 14695981039346656037, "a": 0xaf63dc4c8601ec8c, "b": 0xaf63df4c8601f1a5, "foobar": 0x85944171f73967e8, "\x00": 0xaf63bd4c8601b7df,
	} {
		if d := table.Digest([]byte(s)); d != want {
			t.Errorf("Digest(%q): %#x, want %#x", s, d, want)
		}
	}
	if table.Digest(nil) != 14695981039346656037 {
		t.Errorf("Digest of no bytes: %d", table.Digest(nil))
	}
	var b []byte
	for i := range 3000 {
		h := fnv.New64a()
		h.Write(b)
		if d := table.Digest(b); d != h.Sum64() {
			t.Fatalf("Digest of %d bytes: %#x, want %#x", len(b), d, h.Sum64())
		}
		b = append(b, byte(i*i+i/256))
	}
	for c := range 256 {
		if d := table.Digest([]byte{byte(c)}); d != (14695981039346656037^uint64(c))*1099511628211 {
			t.Errorf("Digest of the byte %d: %#x", c, d)
		}
	}
}

// P3.4: the digest of a table is that of its text.
func TestTableDigest(t *testing.T) {
	seen := map[uint64]int{}
	for i, x := range tables(t) {
		h := fnv.New64a()
		h.Write([]byte(reckoned(x)))
		d := x.Digest()
		if d != h.Sum64() {
			t.Errorf("Digest of the table %d: %#x, want %#x", i, d, h.Sum64())
		}
		if k, ok := seen[d]; ok {
			t.Errorf("Digest of the tables %d and %d: %#x", i, k, d)
		}
		seen[d] = i
	}
	for _, x := range []table.Table{{}, {Schema: one(), Rows: ints(2, 1)}, {Schema: one(), Rows: misfits()}, {Rows: ints(1)}, {Schema: one(), Rows: upTo(api.MaxRows + 1)}} {
		if d := x.Digest(); d != 14695981039346656037 {
			t.Errorf("Digest of an invalid table: %d", d)
		}
	}
}

// filledSchema returns s with spare capacity, filled so that any write to it is seen.
func filledSchema(s schema.Schema) schema.Schema {
	l := slices.Repeat(schema.Schema{{Name: "spare", Type: 5}}, 3*len(s)+8)
	copy(l, s)
	return l[:len(s)]
}

// filledRow returns r with spare capacity, filled so that any write to it is seen.
func filledRow(r []value.Value) []value.Value {
	l := slices.Repeat([]value.Value{value.Text("spare")}, 3*len(r)+8)
	copy(l, r)
	return l[:len(r)]
}

// filledRows returns rows with spare capacity, in each row too.
func filledRows(rows [][]value.Value) [][]value.Value {
	l := slices.Repeat([][]value.Value{{value.Text("spare")}}, 3*len(rows)+8)
	for i, r := range rows {
		l[i] = filledRow(r)
	}
	return l[:len(rows)]
}

func filled(x table.Table) table.Table {
	return table.Table{Schema: filledSchema(x.Schema), Rows: filledRows(x.Rows)}
}

// intact reports whether x, with all its spare capacity, is what filled made of a table with this schema and these rows.
func intact(x table.Table, s schema.Schema, rows [][]value.Value) bool {
	want := table.Table{Schema: filledSchema(s), Rows: filledRows(rows)}
	if !same(x, s, rows) || !slices.Equal(x.Schema[:cap(x.Schema)], want.Schema[:cap(want.Schema)]) || !sameRows(x.Rows[:cap(x.Rows)], want.Rows[:cap(want.Rows)]) {
		return false
	}
	for i, r := range x.Rows {
		if !slices.Equal(r[:cap(r)], want.Rows[i][:cap(want.Rows[i])]) {
			return false
		}
	}
	return true
}

// scribble overwrites all the memory of x, its spare capacity included.
func scribble(x table.Table) {
	for _, r := range x.Rows[:cap(x.Rows)] {
		scribbleRow(r)
	}
	s := x.Schema[:cap(x.Schema)]
	for i := range s {
		s[i] = schema.Column{Name: "scribble", Type: 7}
	}
	rows := x.Rows[:cap(x.Rows)]
	for i := range rows {
		rows[i] = []value.Value{value.Text("scribble")}
	}
}

func scribbleRow(r []value.Value) {
	r = r[:cap(r)]
	for i := range r {
		r[i] = value.Text("scribble")
	}
}

// P3.5: arguments, and their spare capacity, are not modified.
func TestArguments(t *testing.T) {
	all := ordered()
	for _, rows := range [][][]value.Value{nil, all[:1], all, {all[5], all[2], all[5], all[1]}, {all[1], nil, all[0]}} {
		for _, s := range []schema.Schema{two(), one(), {{Name: "A"}}, nil} {
			x, y, row := filled(table.Table{Schema: s, Rows: rows}), filled(made(t, two(), all[:9])), filledRow(all[5])
			table.Make(x.Schema, x.Rows)
			x.Check()
			x.Equal(y)
			y.Equal(x)
			x.Equal(x)
			x.Count(row)
			x.Union(y)
			y.Union(x)
			x.Union(x)
			x.Column("name")
			x.Show()
			x.Digest()
			x.Copy()
			if !intact(x, s, rows) || !intact(y, two(), all[:9]) || !slices.Equal(row[:cap(row)], filledRow(all[5])[:cap(row)]) {
				t.Errorf("arguments of %v and %d rows are modified", s, len(rows))
			}
		}
	}
	b := []byte("some bytes, and spare ones")
	table.Digest(b[:10])
	if string(b) != "some bytes, and spare ones" {
		t.Errorf("Digest modifies its argument: %q", b)
	}
}

// apart reports a result that shares memory with an argument, with another result, or among its own rows.
// The call f answers a table for its arguments, which it must not keep.
func apart(t *testing.T, name string, f func(x, y table.Table) table.Table, x, y table.Table) {
	t.Helper()
	a, b := filled(x), filled(y)
	first, second := f(a, b), f(a, b)
	want := table.Table{Schema: slices.Clone(first.Schema), Rows: deep(first.Rows)}
	for i, r := range first.Rows {
		scribbleRow(r)
		for k, o := range first.Rows {
			if k > i && !slices.Equal(o, want.Rows[k]) {
				t.Fatalf("%s: the rows %d and %d of the result share memory", name, i, k)
			}
		}
	}
	scribble(first)
	if !intact(a, x.Schema, x.Rows) || !intact(b, y.Schema, y.Rows) {
		t.Errorf("%s: the result shares memory with an argument", name)
	}
	if !same(second, want.Schema, want.Rows) {
		t.Errorf("%s: two results share memory", name)
	}
	scribble(a)
	scribble(b)
	if !same(second, want.Schema, want.Rows) {
		t.Errorf("%s: an argument is kept", name)
	}
}

// P3.5: tables that are results are new memory, rows and all, and arguments are not retained.
func TestResults(t *testing.T) {
	all := ordered()
	shared := slices.Repeat([][]value.Value{all[3]}, 5)
	empty := made(t, two(), nil)
	for _, rows := range [][][]value.Value{nil, all[:1], all[:2], all[:17], {all[5], all[2], all[5], all[1]}, shared} {
		x := table.Table{Schema: two(), Rows: rows}
		apart(t, "Make", func(x, _ table.Table) table.Table { y, _ := table.Make(x.Schema, x.Rows); return y }, x, empty)
		apart(t, "Copy", func(x, _ table.Table) table.Table { return x.Copy() }, x, empty)
		valid := made(t, two(), rows)
		union := func(x, y table.Table) table.Table { z, _ := x.Union(y); return z }
		for _, o := range []table.Table{empty, made(t, two(), all[2:4]), valid} {
			apart(t, "Union", union, valid, o)
			apart(t, "Union", union, o, valid)
		}
		apart(t, "Union of itself", func(x, _ table.Table) table.Table { return union(x, x) }, valid, empty)
		apart(t, "Parse", func(x, _ table.Table) table.Table { y, _ := table.Parse(x.Show()); return y }, valid, empty)
	}
}

// P3.5: rows that share memory as arguments do not as results.
func TestResultsShared(t *testing.T) {
	row := pair(1, "a")
	rows := [][]value.Value{row, row, row}
	x, _ := table.Make(two(), rows)
	y := table.Table{Schema: two(), Rows: rows}.Copy()
	z, _ := table.Table{Schema: two(), Rows: rows}.Union(table.Table{Schema: two(), Rows: rows})
	for _, r := range []table.Table{x, y, z} {
		scribbleRow(r.Rows[0])
		for _, o := range r.Rows[1:] {
			if !slices.Equal(o, row) {
				t.Errorf("rows of a result share memory")
			}
		}
	}
	if !slices.Equal(row, pair(1, "a")) {
		t.Errorf("a result shares memory with a row of the argument")
	}
}

// P3.5: a column is new memory.
func TestResultsColumn(t *testing.T) {
	for _, x := range []table.Table{made(t, one(), upTo(5)), made(t, one(), ints(4)), made(t, one(), nil)} {
		a := filled(x)
		first, _ := a.Column("a")
		second, _ := a.Column("a")
		want := slices.Clone(second)
		scribbleRow(first)
		if !intact(a, x.Schema, x.Rows) || !slices.Equal(second, want) {
			t.Errorf("the result of Column shares memory")
		}
		scribble(a)
		if !slices.Equal(second, want) {
			t.Errorf("Column keeps its argument")
		}
	}
}

// P1: every call ends and does not panic, whatever it is given.
func TestEnds(t *testing.T) {
	l := append(tables(t)[:12], table.Table{}, table.Table{Rows: [][]value.Value{nil, nil}}, table.Table{Rows: ints(1)}, table.Table{Schema: make(schema.Schema, 1<<10), Rows: make([][]value.Value, 1<<10)})
	for _, m := range wrongSchemas() {
		for _, s := range m {
			l = append(l, table.Table{Schema: s, Rows: misfits()}, table.Table{Schema: s, Rows: upTo(api.MaxRows + 1)}, table.Table{Schema: s})
		}
	}
	l = append(l, table.Table{Schema: two(), Rows: misfits()}, table.Table{Schema: one(), Rows: ints(3, 1, 2)})
	for _, x := range l {
		table.Make(x.Schema, x.Rows)
		x.Check()
		x.Show()
		x.Digest()
		x.Copy()
		for _, name := range []string{"", "a", "id", "A"} {
			x.Column(name)
		}
		for _, r := range misfits() {
			x.Count(r)
		}
		for _, y := range l {
			x.Equal(y)
			x.Union(y)
		}
	}
}
