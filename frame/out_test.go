package frame_test

import (
	"math"
	"math/rand"
	"slices"
	"strconv"
	"strings"
	"testing"

	"bywash/api"
	"bywash/frame"
	"bywash/schema"
	"bywash/table"
	"bywash/value"
)

// integers lists those at which the number of bytes changes, and some others.
func integers() []int {
	l := []int{0, math.MinInt, math.MinInt + 1, math.MaxInt, math.MaxInt - 1, 300, -300}
	for k := range 63 {
		for d := -2; d <= 2; d++ {
			l = append(l, 1<<k+d, -1<<k+d)
		}
	}
	r := rand.New(rand.NewSource(7))
	for range 500 {
		l = append(l, int(r.Uint64())>>r.Intn(64))
	}
	return l
}

// allBytes returns a string in which each byte is once.
func allBytes() string {
	b := make([]byte, 256)
	for k := range b {
		b[k] = byte(k)
	}
	return string(b)
}

// samples lists strings of any bytes, at the lengths at which that of the encoding changes.
func samples() []string {
	l := []string{"", "a", "ab", "\x00", "\xff", "a\x00", "\u00e9", allBytes(), allBytes()[1:], strings.Repeat("x", 1<<16), strings.Repeat("x", 1<<16-1)}
	for n := range 70 {
		l = append(l, strings.Repeat("q", n))
	}
	return l
}

// values lists valid ones.
func values() []value.Value {
	l := []value.Value{
		value.Null(), value.Text(""), value.Text(" "), value.Text("~"), value.Text(`a"b\`), value.Text("null"), value.Text("12"),
		value.Text(strings.Repeat("~", api.MaxText)), value.Text(strings.Repeat("a", api.MaxText-1)),
	}
	for _, n := range integers() {
		l = append(l, value.Of(n))
	}
	return l
}

// wrongValues lists some that are not valid, and that have an encoding of their own.
func wrongValues() []value.Value {
	return []value.Value{
		{Kind: 3}, {Kind: 4}, {Kind: -1}, {Kind: 255}, {Kind: 257}, {Kind: 258}, {Kind: math.MinInt}, {Kind: math.MaxInt}, {Kind: 1 << 32},
		value.Text("\x1f"), value.Text("\x7f"), value.Text("\n"), value.Text("a\x00"), value.Text("\xff"), value.Text("\u00e9"),
		value.Text(strings.Repeat("a", api.MaxText+1)), value.Text(strings.Repeat("a", 1000)),
	}
}

// columns returns n of them, valid if there may be so many, whose names are as long as they may be.
func columns(n int) schema.Schema {
	var s schema.Schema
	for k := range n {
		name := "c" + strconv.Itoa(k)
		s = append(s, schema.Column{Name: name + strings.Repeat("_", api.MaxName-len(name)), Type: 1 + k%2})
	}
	return s
}

// row returns n values that fit as many columns.
func row(n, k int) []value.Value {
	var l []value.Value
	for c := range n {
		l = append(l, []value.Value{value.Of(k), value.Text(strconv.Itoa(k)), value.Null(), value.Text(strings.Repeat("~", k%(api.MaxText+1)))}[c%4])
	}
	return l
}

// sized returns a table of so many columns and rows, which is valid if there may be so many.
func sized(width, height int) table.Table {
	t := table.Table{Schema: columns(width)}
	for k := range height {
		t.Rows = append(t.Rows, row(width, k))
	}
	return t
}

func parsed(s string) table.Table {
	t, e := table.Parse(s)
	if e != api.OK {
		panic(s)
	}
	return t
}

// tables lists valid ones.
func tables() []table.Table {
	l := []table.Table{
		parsed("(a int)\n"), parsed("(a text)\n"), parsed("(a int, b text)\n"), parsed("(a int)\nnull\n2\n2\n"), parsed("(a int)\nnull\nnull\n"),
		parsed("(a text)\nnull\n\"\"\n\" \"\n\"a\\\"b\"\n"), parsed("(b int, a text)\nnull, null\nnull, \"x\"\n-300, null\n300, \"300\"\n"),
		parsed("(a int)\n" + strconv.Itoa(math.MinInt) + "\n-257\n-256\n-1\n0\n255\n256\n" + strconv.Itoa(math.MaxInt) + "\n"),
		sized(1, 255), sized(1, 256), sized(3, 257), sized(api.MaxColumns, 0), sized(api.MaxColumns, 40), sized(1, api.MaxRows-1), sized(2, api.MaxRows),
	}
	for n := 1; n <= api.MaxColumns; n++ {
		l = append(l, sized(n, n))
	}
	return l
}

// wrongTables lists some that are not valid, and that have an encoding of their own.
func wrongTables() []table.Table {
	a := schema.Schema{{Name: "a", Type: 1}}
	b := schema.Schema{{Name: "b", Type: 2}}
	both := schema.Schema{a[0], b[0]}
	rows := func(v ...value.Value) [][]value.Value {
		var l [][]value.Value
		for _, x := range v {
			l = append(l, []value.Value{x})
		}
		return l
	}
	l := []table.Table{
		{}, {Rows: [][]value.Value{{}}}, {Rows: make([][]value.Value, api.MaxRows)}, {Rows: make([][]value.Value, api.MaxRows+1)},
		sized(api.MaxColumns+1, 0), sized(api.MaxColumns+1, 1), sized(100, 0), sized(1, api.MaxRows+1), sized(2, api.MaxRows+1), sized(1, 5000),
		{Schema: slices.Concat(a, a)}, {Schema: slices.Concat(a, b, a)}, {Schema: slices.Concat(columns(api.MaxColumns-1), columns(1))},
		{Schema: a, Rows: rows(value.Of(2), value.Null())}, {Schema: a, Rows: rows(value.Of(2), value.Of(1))},
		{Schema: a, Rows: rows(value.Of(0), value.Of(256), value.Of(-1))}, {Schema: b, Rows: rows(value.Text("b"), value.Text("a"))},
		{Schema: b, Rows: rows(value.Text(""), value.Null())}, {Schema: b, Rows: rows(value.Text("aa"), value.Text("a"))},
		{Schema: both, Rows: [][]value.Value{{value.Of(1), value.Text("b")}, {value.Of(1), value.Text("a")}}},
		{Schema: a, Rows: rows(value.Text("a"))}, {Schema: a, Rows: rows(value.Of(1), value.Text("a"))}, {Schema: b, Rows: rows(value.Of(1))},
		{Schema: b, Rows: rows(value.Null(), value.Of(1))}, {Schema: both, Rows: [][]value.Value{{value.Text("a"), value.Of(1)}}},
	}
	for _, name := range []string{"", "A", "_", "1", "a b", "a-", "\x00", "a\xff", strings.Repeat("a", api.MaxName+1), strings.Repeat("a", 300)} {
		l = append(l, table.Table{Schema: schema.Schema{{Name: name, Type: 1}}}, table.Table{Schema: schema.Schema{b[0], {Name: name, Type: 2}}})
	}
	for _, k := range []int{0, 3, -1, 4, 255, 257, 258, 1 << 32, math.MinInt, math.MaxInt} {
		l = append(l, table.Table{Schema: schema.Schema{{Name: "a", Type: k}}}, table.Table{Schema: schema.Schema{b[0], {Name: "a", Type: k}}})
	}
	for _, v := range wrongValues() {
		l = append(l, table.Table{Schema: b, Rows: rows(v)}, table.Table{Schema: both, Rows: [][]value.Value{{value.Null(), value.Null()}, {value.Of(1), v}}})
	}
	return l
}

func bytesOf(o *frame.Out) string { return string(o.Bytes()) }

// P7.1: an integer is its length and its sign, and its bytes, the least significant first.
func TestOutInt(t *testing.T) {
	for _, c := range []struct {
		n    int
		want string
	}{
		{0, "\x00"}, {1, "\x01\x01"}, {2, "\x01\x02"}, {255, "\x01\xff"}, {256, "\x02\x00\x01"}, {300, "\x02\x2c\x01"}, {65535, "\x02\xff\xff"},
		{65536, "\x03\x00\x00\x01"}, {-1, "\x10"}, {-2, "\x11\x01"}, {-256, "\x11\xff"}, {-257, "\x12\x00\x01"}, {-300, "\x12\x2b\x01"},
		{1 << 56, "\x08\x00\x00\x00\x00\x00\x00\x00\x01"}, {1<<56 - 1, "\x07\xff\xff\xff\xff\xff\xff\xff"}, {-1 << 56, "\x17\xff\xff\xff\xff\xff\xff\xff"},
		{math.MaxInt, "\x08\xff\xff\xff\xff\xff\xff\xff\x7f"}, {math.MinInt, "\x18\xff\xff\xff\xff\xff\xff\xff\x7f"},
	} {
		is(t, "Int of "+strconv.Itoa(c.n), bytesOf(new(frame.Out).Int(c.n)), c.want)
	}
	for _, n := range integers() {
		is(t, "Int of "+strconv.Itoa(n), bytesOf(new(frame.Out).Int(n)), intBytes(n))
	}
}

// P7.1: a string is its length and its bytes, whatever they are.
func TestOutText(t *testing.T) {
	is(t, "Text of none", bytesOf(new(frame.Out).Text("")), "\x00")
	is(t, "Text of one", bytesOf(new(frame.Out).Text("a")), "\x01\x01a")
	is(t, "Text of all", bytesOf(new(frame.Out).Text(allBytes())), "\x02\x00\x01"+allBytes())
	for _, s := range samples() {
		is(t, "Text", bytesOf(new(frame.Out).Text(s)), textBytes(s))
	}
}

// P7.1: a value is its kind and what belongs to that.
func TestOutValue(t *testing.T) {
	is(t, "Value of null", bytesOf(new(frame.Out).Value(value.Null())), "\x00")
	is(t, "Value of 0", bytesOf(new(frame.Out).Value(value.Of(0))), "\x01\x01\x00")
	is(t, "Value of -300", bytesOf(new(frame.Out).Value(value.Of(-300))), "\x01\x01\x12\x2b\x01")
	is(t, "Value of no bytes", bytesOf(new(frame.Out).Value(value.Text(""))), "\x01\x02\x00")
	is(t, "Value of a", bytesOf(new(frame.Out).Value(value.Text("a"))), "\x01\x02\x01\x01a")
	for _, v := range values() {
		is(t, "Value", bytesOf(new(frame.Out).Value(v)), valueBytes(v))
	}
}

// P7.1: a table is its columns and its values.
func TestOutTable(t *testing.T) {
	is(t, "Table without rows", bytesOf(new(frame.Out).Table(parsed("(ab text)\n"))), "\x01\x01\x01\x02ab\x01\x02\x00")
	is(t, "Table", bytesOf(new(frame.Out).Table(parsed("(a int, b text)\nnull, \"x\"\n0, null\n"))),
		"\x01\x02"+"\x01\x01a\x01\x01"+"\x01\x01b\x01\x02"+"\x01\x02"+"\x00"+"\x01\x02\x01\x01x"+"\x01\x01\x00"+"\x00")
	for _, u := range tables() {
		is(t, "Table", bytesOf(new(frame.Out).Table(u)), tableBytes(u))
	}
}

// P7.1: an Out has no bytes at first, and each call appends to those that there are, and returns the same Out.
func TestOut(t *testing.T) {
	var o, other frame.Out
	is(t, "Bytes of the zero value", bytesOf(&o), "")
	want := ""
	small := parsed("(a int)\n1\n")
	for k := range 40 {
		is(t, "Int", o.Int(k*100-300), &o)
		want += intBytes(k*100 - 300)
		is(t, "Bytes after Int", bytesOf(&o), want)
		is(t, "Text", o.Text(strings.Repeat("a", k*9)), &o)
		want += textBytes(strings.Repeat("a", k*9))
		is(t, "Bytes after Text", bytesOf(&o), want)
		is(t, "Value", o.Value(value.Of(k)), &o)
		want += valueBytes(value.Of(k))
		is(t, "Bytes after Value", bytesOf(&o), want)
		is(t, "Table", o.Table(small), &o)
		want += tableBytes(small)
		is(t, "Bytes after Table", bytesOf(&o), want)
		is(t, "Bytes again", bytesOf(&o), want)
	}
	is(t, "Bytes of another one", bytesOf(&other), "")
	is(t, "chain", bytesOf(other.Int(300).Text("a").Value(value.Null()).Table(small).Int(-1)), "\x02\x2c\x01\x01\x01a\x00"+tableBytes(small)+"\x10")
}

// P1: values and tables that are not valid are taken without a panic, and what was there before stays.
func TestOutWrong(t *testing.T) {
	wrong := append(wrongTables(),
		table.Table{Schema: columns(2), Rows: [][]value.Value{{}, {value.Of(1)}, row(3, 1), nil}},
		table.Table{Rows: [][]value.Value{row(3, 1)}}, table.Table{Schema: columns(2), Rows: make([][]value.Value, 5000)},
	)
	var o frame.Out
	o.Int(300)
	for _, u := range wrong {
		o.Table(u)
	}
	for _, v := range append(wrongValues(), value.Value{Int: 1}, value.Value{Text: "a"}, value.Value{Kind: 1, Text: "a"}, value.Value{Kind: 2, Int: 1}) {
		o.Value(v)
	}
	if !strings.HasPrefix(bytesOf(&o), "\x02\x2c\x01") {
		t.Errorf("what was appended before is gone")
	}
}
