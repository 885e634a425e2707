package frame_test

import (
	"math"
	"math/rand"
	"slices"
	"strconv"
	"strings"
	"testing"

	"bywash/api"
	"bywash/frame"
	"bywash/table"
	"bywash/value"
)

// P7.2: an integer is read from its encoding, and nothing but that is read.
func TestInInt(t *testing.T) {
	for _, n := range integers() {
		for _, rest := range []string{"", "\x00", "\x01\x01", "\x10", "\xff", "\x08"} {
			i := frame.NewIn([]byte(intBytes(n) + rest))
			is(t, "Int", i.Int(), n)
			good(t, "Int of "+strconv.Itoa(n), i, rest)
		}
	}
}

// P7.2: bytes that are no integer: a length that there isn't, a zero as the last one, more than the greatest integer, or not enough of them.
func TestInIntWrong(t *testing.T) {
	ones := strings.Repeat("\x01", 300)
	l := []string{
		"", "\x09" + ones, "\x0a" + ones, "\x0f" + ones, "\x19" + ones, "\x1f" + ones, "\x20" + ones, "\x21" + ones, "\x30" + ones, "\x7f" + ones,
		"\x80" + ones, "\x90" + ones, "\xf1" + ones, "\xff" + ones,
		"\x01\x00" + ones, "\x02\x01\x00" + ones, "\x02\x00\x00" + ones, "\x08\x01\x01\x01\x01\x01\x01\x01\x00" + ones, "\x08\x00\x00\x00\x00\x00\x00\x00\x00" + ones,
		"\x11\x00" + ones, "\x12\x01\x00" + ones, "\x12\x00\x00" + ones, "\x18\x01\x01\x01\x01\x01\x01\x01\x00" + ones,
		"\x08\x00\x00\x00\x00\x00\x00\x00\x80" + ones, "\x08\xff\xff\xff\xff\xff\xff\xff\xff" + ones, "\x08\x00\x00\x00\x00\x00\x00\x00\xff" + ones,
		"\x18\x00\x00\x00\x00\x00\x00\x00\x80" + ones, "\x18\xff\xff\xff\xff\xff\xff\xff\xff" + ones, "\x18\x00\x00\x00\x00\x00\x00\x00\xff" + ones,
		"\x01", "\x11", "\x02\x01", "\x12\x01", "\x08\x01\x01\x01\x01\x01\x01\x01", "\x18\x01\x01\x01\x01\x01\x01\x01",
	}
	for _, b := range l {
		what := "Int of " + shown(b)
		i := frame.NewIn(capped(b, ones))
		is(t, what, i.Int(), 0)
		bad(t, what, i)
		held(t, b)
	}
}

// P7.2: all heads, with as many bytes behind them as they may want, and the edges of the last one.
func TestInHeads(t *testing.T) {
	for head := range 256 {
		for n := range 11 {
			for _, fill := range []string{"\x00", "\x01", "\x80", "\xff"} {
				for _, last := range []string{"\x00", "\x01", "\x7f", "\x80", "\xff"} {
					held(t, string([]byte{byte(head)})+strings.Repeat(fill, n)+last)
				}
			}
		}
	}
}

// P7.2: all bytes up to two, and many of three, read by each call.
func TestInShort(t *testing.T) {
	held(t, "")
	for a := range 256 {
		held(t, string([]byte{byte(a)}))
		for b := range 256 {
			held(t, string([]byte{byte(a), byte(b)}))
		}
	}
	some := []byte{0, 1, 2, 3, 8, 9, 16, 17, 18, 24, 25, 31, 32, 97, 127, 128, 255}
	for _, a := range some {
		for _, b := range some {
			for _, c := range some {
				held(t, string([]byte{a, b, c}))
				held(t, string([]byte{2, a, b, c}))
			}
		}
	}
}

// P7.2: Count takes the integers from 0 to most.
func TestInCount(t *testing.T) {
	for _, most := range []int{math.MinInt, -300, -1, 0, 1, 4, 5, 255, 256, 300, math.MaxInt - 1, math.MaxInt} {
		for _, n := range append([]int{most, most - 1, most + 1, most / 2}, integers()[:200]...) {
			what := "Count(" + strconv.Itoa(most) + ") of " + strconv.Itoa(n)
			i := frame.NewIn([]byte(intBytes(n) + "\x01\x05"))
			if n < 0 || n > most {
				is(t, what, i.Count(most), 0)
				bad(t, what, i)
				continue
			}
			is(t, what, i.Count(most), n)
			good(t, what, i, "\x01\x05")
		}
	}
}

// P7.2: a string is read, whatever bytes it has.
func TestInText(t *testing.T) {
	for _, s := range samples() {
		for _, rest := range []string{"", "\x00", "\x01\x01", "x"} {
			i := frame.NewIn([]byte(textBytes(s) + rest))
			is(t, "Text", i.Text(), s)
			good(t, "Text", i, rest)
		}
	}
}

// P7.2: a string whose length is negative, or more than what is left.
func TestInTextWrong(t *testing.T) {
	for _, left := range []string{"", "a", strings.Repeat("\x01", 20), strings.Repeat("\x01", 300)} {
		for _, n := range []int{-1, -2, -20, -300, math.MinInt, len(left) + 1, len(left) + 2, 301, 1 << 31, 1 << 32, math.MaxInt - 1, math.MaxInt} {
			what := "Text of " + strconv.Itoa(n) + " with " + strconv.Itoa(len(left))
			i := frame.NewIn(capped(intBytes(n)+left, strings.Repeat("\x01", 400)))
			is(t, what, i.Text(), "")
			bad(t, what, i)
		}
		i := frame.NewIn([]byte(intBytes(len(left)) + left))
		is(t, "Text", i.Text(), left)
		good(t, "Text", i, "")
	}
}

// P7.2: a value is read; one that is not valid, or of another kind, is not.
func TestInValue(t *testing.T) {
	for _, v := range values() {
		for _, rest := range []string{"", "\x00", "\x01\x01"} {
			i := frame.NewIn([]byte(valueBytes(v) + rest))
			is(t, "Value", i.Value(), v)
			good(t, "Value", i, rest)
		}
	}
	for _, v := range wrongValues() {
		for _, rest := range []string{"", strings.Repeat("\x00", 9), strings.Repeat("\x01", 400)} {
			i := frame.NewIn([]byte(valueBytes(v) + rest))
			is(t, "Value of "+shown(valueBytes(v)), i.Value(), value.Value{})
			bad(t, "Value of "+shown(valueBytes(v)), i)
		}
	}
}

// P7.2: a string in a value is held against what a value may be, byte by byte, and one that is none is not.
func TestInValueBytes(t *testing.T) {
	for c := range 256 {
		s := string([]byte{'a', byte(c)})
		held(t, valueBytes(value.Text(s)))
		i := frame.NewIn([]byte(textBytes(s)))
		is(t, "Text", i.Text(), s)
		i = frame.NewIn([]byte(valueBytes(value.Text(s)) + "\x01\x01"))
		is(t, "whether Value is bad", i.Value() == value.Value{} && i.Bad(), c < 32 || c > 126)
	}
	for n := range 3 * api.MaxText {
		i := frame.NewIn([]byte(valueBytes(value.Text(strings.Repeat("a", n)))))
		is(t, "Value of some length", i.Value() != value.Value{} && i.Done(), n <= api.MaxText)
	}
}

// P7.2: a table is read.
func TestInTable(t *testing.T) {
	for _, u := range tables() {
		for _, rest := range []string{"", "\x00", "\x01\x01"} {
			i := frame.NewIn([]byte(tableBytes(u) + rest))
			if got := i.Table(); !got.Equal(u) {
				t.Fatalf("Table: %v instead of %v", got, u)
			}
			good(t, "Table", i, rest)
		}
	}
}

// P7.2: a table that is not valid is not read.
func TestInTableWrong(t *testing.T) {
	for _, u := range wrongTables() {
		for _, rest := range []string{"", strings.Repeat("\x01", 300)} {
			b := tableBytes(u) + rest
			what := "Table of " + shown(b)
			i := frame.NewIn([]byte(b))
			none(t, what, i.Table())
			bad(t, what, i)
			held(t, b)
		}
	}
}

// P7.2: a table of so many columns or rows as the bytes can't hold, or as there may not be.
func TestInTableMany(t *testing.T) {
	column := textBytes("a") + intBytes(1)
	for _, left := range []string{"", "\x00", column, strings.Repeat("\x00", 300), strings.Repeat("\x01", 300)} {
		for _, n := range []int{math.MinInt, -300, -16, -1, 0, 2, 16, 17, 255, 4096, 4097, 1 << 20, 1 << 31, 1 << 32, 1<<32 + 1, 1 << 61, math.MaxInt} {
			for _, b := range []string{intBytes(n) + left, intBytes(n) + column + intBytes(0) + left} {
				i := frame.NewIn(capped(b, strings.Repeat("\x00", 5000)))
				none(t, "Table of "+shown(b), i.Table())
				bad(t, "Table of "+shown(b), i)
				held(t, b)
			}
			// With enough bytes of 0 behind them, some of these are tables: their values are null.
			held(t, intBytes(1)+column+intBytes(n)+left)
			held(t, intBytes(2)+column+textBytes("b")+intBytes(2)+intBytes(n)+left)
			held(t, intBytes(0)+intBytes(n)+left)
		}
	}
}

// thing is an encoding, and the call that reads it, which tells whether what it returned is the thing.
type thing struct {
	name, bytes string
	read        func(i *frame.In) bool
}

func intThing(n int) thing {
	return thing{"Int", intBytes(n), func(i *frame.In) bool { return i.Int() == n }}
}

func countThing(n, most int) thing {
	return thing{"Count", intBytes(n), func(i *frame.In) bool { return i.Count(most) == n }}
}

func textThing(s string) thing {
	return thing{"Text", textBytes(s), func(i *frame.In) bool { return i.Text() == s }}
}

func valueThing(v value.Value) thing {
	return thing{"Value", valueBytes(v), func(i *frame.In) bool { return i.Value() == v }}
}

func tableThing(u table.Table) thing {
	return thing{"Table", tableBytes(u), func(i *frame.In) bool { return i.Table().Equal(u) }}
}

func things() []thing {
	return []thing{
		intThing(300), countThing(256, 256), textThing("abc"), valueThing(value.Of(-257)), tableThing(parsed("(a int, b text)\n-1, null\n2, \"x\"\n")),
		intThing(math.MinInt), countThing(0, 0), textThing(""), valueThing(value.Text("a~")), tableThing(sized(3, 4)), valueThing(value.Null()), intThing(0),
		tableThing(parsed("(a int)\n")), intThing(-1), countThing(math.MaxInt, math.MaxInt), textThing(allBytes()), intThing(math.MaxInt),
	}
}

// empty holds that the call of x returns nothing, as i is bad or becomes bad by it.
func empty(t *testing.T, what string, x thing, i *frame.In) {
	t.Helper()
	switch x.name {
	case "Int":
		is(t, what, i.Int(), 0)
	case "Count":
		is(t, what, i.Count(math.MaxInt), 0)
	case "Text":
		is(t, what, i.Text(), "")
	case "Value":
		is(t, what, i.Value(), value.Value{})
	case "Table":
		none(t, what, i.Table())
	}
	bad(t, what, i)
}

// P7.2: one thing after another, up to the end, which Done tells; at the end, nothing can be read.
func TestInSequence(t *testing.T) {
	l := things()
	all := ""
	for _, x := range l {
		all += x.bytes
	}
	for _, last := range l {
		i := frame.NewIn([]byte(all))
		for _, x := range l {
			is(t, "Done before the end", i.Done(), false)
			is(t, x.name, x.read(i), true)
			is(t, "Bad after "+x.name, i.Bad(), false)
		}
		is(t, "Done at the end", i.Done(), true)
		is(t, "Done at the end, again", i.Done(), true)
		is(t, "Bad at the end", i.Bad(), false)
		empty(t, last.name+" at the end", last, i)
	}
	is(t, "Done of nothing", frame.NewIn(nil).Done(), true)
	is(t, "Bad of nothing", frame.NewIn(nil).Bad(), false)
	is(t, "Done of no bytes", frame.NewIn([]byte{}).Done(), true)
	is(t, "Done of wrong bytes that are not read", frame.NewIn([]byte{255}).Done(), false)
	is(t, "Bad of wrong bytes that are not read", frame.NewIn([]byte{255}).Bad(), false)
}

// P7.2: each thing, cut off at every place: what is cut off lies in spare capacity.
func TestInCut(t *testing.T) {
	for _, x := range things() {
		for n := range len(x.bytes) {
			what := x.name + ", cut off after " + strconv.Itoa(n)
			i := frame.NewIn(capped(x.bytes[:n], x.bytes[n:]))
			empty(t, what, x, i)
			i = frame.NewIn(capped(textBytes("before")+x.bytes[:n], x.bytes[n:]))
			is(t, "before "+what, i.Text(), "before")
			empty(t, what, x, i)
			held(t, x.bytes[:n])
		}
	}
	u := sized(api.MaxColumns, 20)
	b := tableBytes(u)
	for n := range len(b) {
		i := frame.NewIn(capped(b[:n], b[n:]))
		none(t, "Table, cut off", i.Table())
		is(t, "Bad of a table, cut off", i.Bad(), true)
	}
}

// P7.2: once a decoder is bad, it stays bad, however it got so, and whatever is behind that.
func TestInBad(t *testing.T) {
	wrong := []thing{
		{"Int", "\x09", nil}, {"Int", "\x01\x00", nil}, {"Int", "\x20", nil}, {"Int", "\x08\xff\xff\xff\xff\xff\xff\xff\xff", nil},
		{"Count", "\x10", nil}, {"Count", "\x0f", nil}, {"Text", "\x10", nil}, {"Text", "\x02\xff\xff", nil}, {"Text", "\x40", nil},
		{"Value", "\x01\x03", nil}, {"Value", "\x10", nil}, {"Value", "\x01\x01\x09", nil}, {"Value", "\x01\x02\x01\x01\x00", nil}, {"Value", "\x01\x02\x10", nil},
		{"Table", "\x00\x00", nil}, {"Table", tableBytes(table.Table{Schema: columns(1), Rows: [][]value.Value{{value.Of(2)}, {value.Null()}}}), nil}, {"Table", "\x01\x01\x00\x01\x01\x00", nil}, {"Table", "\x10", nil},
		{"Table", "\x01\x01\x01\x01a\x01\x01\x10", nil},
	}
	for _, x := range wrong {
		for _, y := range append(things(), intThing(5), valueThing(value.Of(7))) {
			what := x.name + " of " + shown(x.bytes) + ", before " + y.name
			i := frame.NewIn([]byte(x.bytes + strings.Repeat(y.bytes, 3)))
			empty(t, what, x, i)
			empty(t, what, y, i)
			i = frame.NewIn([]byte(y.bytes + x.bytes + y.bytes))
			is(t, y.name, y.read(i), true)
			is(t, "Bad before "+what, i.Bad(), false)
			empty(t, what, x, i)
			empty(t, what, y, i)
		}
	}
	i := frame.NewIn([]byte("\x01\x05\x01\x04"))
	is(t, "Count(4) of 5", i.Count(4), 0)
	bad(t, "Count(4) of 5", i)
	i = frame.NewIn([]byte("\x01\x05\x01\x04"))
	is(t, "Count(5) of 5", i.Count(5), 5)
	is(t, "Count(4) of 4", i.Count(4), 4)
	is(t, "Done", i.Done(), true)
}

// P7.2: what is one thing is no other one.
func TestInOther(t *testing.T) {
	for _, x := range things() {
		held(t, x.bytes)
		held(t, x.bytes+x.bytes)
	}
	for _, v := range values() {
		held(t, valueBytes(v)+"\x01\x01")
	}
}

// P7.1 and P7.2: what was encoded is read as it was, and what was read is encoded as it was.
func TestThereAndBack(t *testing.T) {
	var o frame.Out
	for _, n := range integers() {
		o.Int(n).Int(n & math.MaxInt)
	}
	for _, s := range samples() {
		o.Text(s)
	}
	for _, v := range values() {
		o.Value(v)
	}
	for _, u := range tables() {
		o.Table(u)
	}
	i := frame.NewIn(o.Bytes())
	var again frame.Out
	for _, n := range integers() {
		is(t, "Int", i.Int(), n)
		is(t, "Count", i.Count(math.MaxInt), n&math.MaxInt)
		again.Int(n).Int(n & math.MaxInt)
	}
	for range samples() {
		again.Text(i.Text())
	}
	for range values() {
		again.Value(i.Value())
	}
	for range tables() {
		again.Table(i.Table())
	}
	is(t, "Done", i.Done(), true)
	if !slices.Equal(again.Bytes(), o.Bytes()) {
		t.Errorf("other bytes than those that were read")
	}
}

// mutated returns b with a few of its bytes changed, removed, doubled or added.
func mutated(r *rand.Rand, b string) string {
	for range r.Intn(3) + 1 {
		k := r.Intn(len(b) + 1)
		c := string([]byte{[]byte{0, 1, 2, 3, 8, 16, 17, 24, 97, 255, byte(r.Intn(256))}[r.Intn(11)]})
		switch r.Intn(4) {
		case 0:
			b = b[:k] + c + b[k:]
		case 1:
			b = b[:k] + c + b[min(k+1, len(b)):]
		case 2:
			b = b[:k] + b[min(k+1, len(b)):]
		case 3:
			b = b[:k] + b[max(k-1, 0):]
		}
	}
	return b
}

// P7.2: encodings with a few bytes changed are read just if they are still encodings, and as such.
func TestInMutated(t *testing.T) {
	r := rand.New(rand.NewSource(7))
	for _, x := range things() {
		for range 1000 {
			held(t, mutated(r, x.bytes))
		}
	}
}

// P7.2: whatever a table is read from, it is encoded to the same bytes, and is valid.
func TestInTableMutated(t *testing.T) {
	r := rand.New(rand.NewSource(8))
	found := 0
	l := []table.Table{parsed("(a int, b text)\nnull, \"ab\"\n1, null\n300, \"c\"\n"), sized(3, 3), parsed("(a int)\nnull\n2\n2\n")}
	for _, u := range l {
		for range 20000 {
			b := mutated(r, tableBytes(u))
			held(t, b)
			i := frame.NewIn([]byte(b))
			got := i.Table()
			if i.Bad() {
				continue
			}
			found++
			is(t, "Check", got.Check(), api.OK)
			is(t, "bytes of what was read", strings.HasPrefix(b, bytesOf(new(frame.Out).Table(got))), true)
		}
	}
	if found < 1000 {
		t.Errorf("only %d tables", found)
	}
}
