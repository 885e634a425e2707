package frame_test

import (
	"slices"
	"strings"
	"testing"

	"bywash/frame"
	"bywash/schema"
	"bywash/table"
	"bywash/value"
)

const spare = "SPARE CAPACITY THAT NOBODY MAY WRITE TO"

// scribble overwrites l and its spare capacity.
func scribble[T any](l []T, with T) {
	l = l[:cap(l)]
	for k := range l {
		l[k] = with
	}
}

// padded returns l with spare capacity that is filled, so that any write to it is seen.
func padded[T any](l []T, with T) []T {
	c := slices.Repeat([]T{with}, 2*len(l)+9)
	copy(c, l)
	return c[:len(l)]
}

func scribbleTable(u table.Table) {
	for _, row := range u.Rows {
		scribble(row, value.Text("scribble"))
	}
	scribble(u.Rows, []value.Value{value.Text("scribble")})
	scribble(u.Schema, schema.Column{Name: "scribble", Type: 7})
}

func paddedTable(u table.Table) table.Table {
	u = u.Copy()
	for k, row := range u.Rows {
		u.Rows[k] = padded(row, value.Text(spare))
	}
	return table.Table{Schema: padded(u.Schema, schema.Column{Name: spare}), Rows: padded(u.Rows, []value.Value{value.Text(spare)})}
}

// whole returns u with all spare capacity laid open.
func whole(u table.Table) table.Table {
	u = table.Table{Schema: u.Schema[:cap(u.Schema)], Rows: slices.Clone(u.Rows[:cap(u.Rows)])}
	for k, row := range u.Rows {
		u.Rows[k] = row[:cap(row)]
	}
	return u
}

// P7.4: a table that is encoded stays as it is, and what becomes of it later does not matter.
func TestTableArgument(t *testing.T) {
	for _, u := range tables() {
		p := paddedTable(u)
		before := whole(p).Copy()
		var o frame.Out
		o.Table(p)
		if !whole(p).Equal(before) {
			t.Fatalf("Table modified its argument")
		}
		scribbleTable(p)
		is(t, "Bytes", bytesOf(&o), tableBytes(u))
	}
}

// P7.4: bytes that are decoded, summed, framed or scanned stay as they are.
func TestBytesArgument(t *testing.T) {
	for _, x := range append(things(), thing{bytes: frameBytes("a") + frameBytes("") + frameBytes("abc")}) {
		b := capped(x.bytes, spare)
		i := frame.NewIn(b)
		i.Table()
		i = frame.NewIn(b)
		i.Value()
		i = frame.NewIn(b)
		i.Text()
		i = frame.NewIn(b)
		i.Int()
		i.Count(3)
		frame.Sum(b)
		frame.Frame(b)
		frame.Scan(b)
		is(t, "bytes", string(b[:len(x.bytes)+len(spare)]), x.bytes+spare)
	}
}

// P7.4: what becomes of the bytes later does not matter to a decoder, nor to what was read, framed or scanned.
func TestBytesNotRetained(t *testing.T) {
	all := ""
	for _, x := range things() {
		all += x.bytes
	}
	for n := range things() {
		b := capped(all, spare)
		i := frame.NewIn(b)
		for k, x := range things() {
			if k == n {
				scribble(b, '#')
			}
			is(t, x.name, x.read(i), true)
		}
		is(t, "Done", i.Done(), true)
	}
	b := []byte(textBytes("text") + valueBytes(value.Text("value")) + tableBytes(parsed("(name text)\n\"row\"\n")))
	i := frame.NewIn(b)
	s, v, u := i.Text(), i.Value(), i.Table()
	f := frame.Frame(b)
	framed := []byte(frameBytes("one") + frameBytes("two"))
	l, _ := frame.Scan(framed)
	want := frameBytes(string(b))
	scribble(b, '#')
	scribble(framed, '#')
	is(t, "Text", s, "text")
	is(t, "Value", v, value.Text("value"))
	is(t, "Table", u.Show(), "(name text)\n\"row\"\n")
	is(t, "Frame", string(f), want)
	is(t, "Scan", strings.Join(texts(l), " "), "one two")
}

// P7.4: what Bytes returns is not what later calls append to, or return.
func TestBytesResult(t *testing.T) {
	var o frame.Out
	want := ""
	var all [][]byte
	for k := range 60 {
		o.Int(k)
		want += intBytes(k)
		b := o.Bytes()
		is(t, "Bytes", string(b), want)
		all = append(all, b)
		scribble(o.Bytes(), '#')
		_ = append(o.Bytes(), spare...)
	}
	for _, b := range all {
		is(t, "earlier Bytes", string(b), want[:len(b)])
	}
	is(t, "Bytes", bytesOf(&o), want)
}

// P7.4: what Frame returns is new memory.
func TestFrameResult(t *testing.T) {
	for _, s := range samples() {
		b := capped(s, spare)
		first, second := frame.Frame(b), frame.Frame(b)
		scribble(first, '#')
		is(t, "argument", string(b[:len(s)+len(spare)]), s+spare)
		is(t, "Frame", string(second), frameBytes(s))
		is(t, "later Frame", string(frame.Frame(b)), frameBytes(s))
	}
}

// P7.4: what Scan returns is new memory: no two of the byte strings share any.
func TestScanResult(t *testing.T) {
	want := []string{"one", "", "two", strings.Repeat("x", 300), "", "three"}
	b := ""
	for _, s := range want {
		b += frameBytes(s)
	}
	for k := range want {
		arg := capped(b, spare)
		l, _ := frame.Scan(arg)
		other, _ := frame.Scan(arg)
		scribble(l[k], '#')
		_ = append(l[k], spare...)
		is(t, "argument", string(arg[:len(b)+len(spare)]), b+spare)
		for n := range want {
			is(t, "another result", string(other[n]), want[n])
			if n != k {
				is(t, "another byte string", string(l[n]), want[n])
			}
		}
		scribble(l, []byte("#"))
		is(t, "another result", strings.Join(texts(other), " "), strings.Join(want, " "))
	}
}

// P7.4: a table that is read is new memory: no two of its rows share any, nor do two tables.
func TestTableResult(t *testing.T) {
	u := sized(5, 7)
	b := tableBytes(u)
	for k := range u.Rows {
		i := frame.NewIn([]byte(b + b + "\x01\x05"))
		first, second := i.Table(), i.Table()
		scribble(first.Rows[k], value.Text("scribble"))
		_ = append(first.Rows[k], row(20, 3)...)
		_ = append(first.Schema, columns(20)...)
		for n, r := range first.Rows {
			is(t, "another row", n == k || slices.Equal(r, u.Rows[n]), true)
		}
		is(t, "schema", first.Schema.Equal(u.Schema), true)
		scribbleTable(first)
		is(t, "another table", second.Equal(u), true)
		good(t, "Table", i, "\x01\x05")
		is(t, "a later table", frame.NewIn([]byte(b)).Table().Equal(u), true)
	}
}

// Two decoders, and two encoders, have nothing in common.
func TestTwo(t *testing.T) {
	b := []byte("\x01\x05\x01\x06")
	first, second := frame.NewIn(b), frame.NewIn(b)
	is(t, "Int", first.Int(), 5)
	is(t, "Count(1)", first.Count(1), 0)
	bad(t, "first", first)
	is(t, "Int", second.Int(), 5)
	is(t, "Int", second.Int(), 6)
	is(t, "Done", second.Done(), true)
	var o, p frame.Out
	o.Int(1)
	p.Int(2)
	is(t, "Bytes", bytesOf(&o)+bytesOf(&p), "\x01\x01\x01\x02")
}
