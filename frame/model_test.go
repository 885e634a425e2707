package frame_test

import (
	"bytes"
	"encoding/binary"
	"fmt"
	"hash/crc32"
	"math"
	"slices"
	"strconv"
	"strings"
	"testing"

	"bywash/api"
	"bywash/frame"
	"bywash/schema"
	"bywash/table"
	"bywash/value"
)

// What the document asks, reckoned in another way: the functions named after bytes give the encoding of a thing, valid or not,
// and those named cut read a thing from the beginning of s, and give what is behind it, and whether there is one.

func intBytes(n int) string {
	mark, u := byte(0), uint64(n)
	if n < 0 {
		mark, u = 16, ^u
	}
	l := bytes.TrimRight(binary.LittleEndian.AppendUint64(nil, u), "\x00")
	return string(append([]byte{mark + byte(len(l))}, l...))
}

func textBytes(s string) string { return intBytes(len(s)) + s }

func valueBytes(v value.Value) string {
	switch v.Kind {
	case 1:
		return "\x01\x01" + intBytes(v.Int)
	case 2:
		return "\x01\x02" + textBytes(v.Text)
	}
	return intBytes(v.Kind)
}

func tableBytes(t table.Table) string {
	l := []string{intBytes(len(t.Schema))}
	for _, c := range t.Schema {
		l = append(l, textBytes(c.Name), intBytes(c.Type))
	}
	l = append(l, intBytes(len(t.Rows)))
	for _, row := range t.Rows {
		for _, v := range row {
			l = append(l, valueBytes(v))
		}
	}
	return strings.Join(l, "")
}

func frameBytes(s string) string {
	return textBytes(s) + string(binary.LittleEndian.AppendUint32(nil, crc32.ChecksumIEEE([]byte(s))))
}

func cutInt(s string) (n int, rest string, ok bool) {
	if s == "" || s[0] >= 32 || s[0]%16 > 8 || len(s) <= int(s[0]%16) {
		return 0, "", false
	}
	var b [8]byte
	copy(b[:], s[1:1+s[0]%16])
	u := binary.LittleEndian.Uint64(b[:])
	if s[0] >= 16 {
		u = ^u
	}
	// There is one encoding of each integer, so that any other bytes are none.
	rest, ok = strings.CutPrefix(s, intBytes(int(u)))
	if !ok || len(s)-len(rest) != 1+int(s[0]%16) {
		return 0, "", false
	}
	return int(u), rest, true
}

func cutCount(s string, most int) (n int, rest string, ok bool) {
	n, rest, ok = cutInt(s)
	if !ok || n < 0 || n > most {
		return 0, "", false
	}
	return n, rest, true
}

func cutText(s string) (text, rest string, ok bool) {
	n, rest, ok := cutInt(s)
	if !ok || n < 0 || n > len(rest) {
		return "", "", false
	}
	return rest[:n], rest[n:], true
}

func cutValue(s string) (v value.Value, rest string, ok bool) {
	v.Kind, rest, ok = cutInt(s)
	if ok && v.Kind == 1 {
		v.Int, rest, ok = cutInt(rest)
	}
	if ok && v.Kind == 2 {
		v.Text, rest, ok = cutText(rest)
	}
	if !ok || !v.Right() {
		return value.Value{}, "", false
	}
	return v, rest, true
}

func cutColumn(s string) (c schema.Column, rest string, ok bool) {
	if c.Name, rest, ok = cutText(s); ok {
		c.Type, rest, ok = cutInt(rest)
	}
	return c, rest, ok
}

func cutTable(s string) (t table.Table, rest string, ok bool) {
	columns, rest, ok := cutInt(s)
	for k := 0; ok && k < columns; k++ {
		var c schema.Column
		c, rest, ok = cutColumn(rest)
		t.Schema = append(t.Schema, c)
	}
	rows := 0
	if ok {
		rows, rest, ok = cutInt(rest)
	}
	ok = ok && columns > 0 && rows >= 0
	for k := 0; ok && k < rows; k++ {
		var row []value.Value
		for c := 0; ok && c < columns; c++ {
			var v value.Value
			v, rest, ok = cutValue(rest)
			row = append(row, v)
		}
		t.Rows = append(t.Rows, row)
	}
	if !ok || t.Check() != api.OK {
		return table.Table{}, "", false
	}
	return t, rest, true
}

func cutFrames(s string) (l []string, end int) {
	rest := s
	for {
		b, behind, ok := cutText(rest)
		if !ok || len(behind) < 4 || frameBytes(b) != rest[:len(rest)-len(behind)+4] {
			return l, end
		}
		l, rest = append(l, b), behind[4:]
		end = len(s) - len(rest)
	}
}

func is[T comparable](t *testing.T, what string, got, want T) {
	t.Helper()
	if got != want {
		t.Fatalf("%s: %#v instead of %#v", what, got, want)
	}
}

// capped returns the bytes of s in a slice behind which others are, in its spare capacity, that could go on with them.
func capped(s, behind string) []byte { return []byte(s + behind)[:len(s)] }

// good holds that i is not bad, and that just rest is left to be read.
func good(t *testing.T, what string, i *frame.In, rest string) {
	t.Helper()
	is(t, what+": Bad", i.Bad(), false)
	is(t, what+": Done", i.Done(), rest == "")
	n, _, ok := cutInt(rest)
	is(t, what+": Int behind it", i.Int(), n)
	is(t, what+": Bad behind it", i.Bad(), !ok)
}

// bad holds that i is bad, and that all its calls tell so.
func bad(t *testing.T, what string, i *frame.In) {
	t.Helper()
	for range 3 {
		is(t, what+": Bad", i.Bad(), true)
		is(t, what+": Done", i.Done(), false)
		is(t, what+": Int of a bad one", i.Int(), 0)
		is(t, what+": Count of a bad one", i.Count(math.MaxInt), 0)
		is(t, what+": Count(-1) of a bad one", i.Count(-1), 0)
		is(t, what+": Text of a bad one", i.Text(), "")
		is(t, what+": Value of a bad one", i.Value(), value.Value{})
		none(t, what+": Table of a bad one", i.Table())
	}
}

func none(t *testing.T, what string, u table.Table) {
	t.Helper()
	if len(u.Schema) != 0 || len(u.Rows) != 0 {
		t.Fatalf("%s: %v", what, u)
	}
}

// answer is what a call returned, where its table is told by its bytes, and how the decoder went on.
type answer struct {
	n         int
	s         string
	v         value.Value
	t         string
	bad, done bool
	next      int
	badNext   bool
}

func (a answer) got(i *frame.In) answer {
	a.bad, a.done = i.Bad(), i.Done()
	a.next = i.Int()
	a.badNext = i.Bad()
	return a
}

func (a answer) want(rest string, ok bool) answer {
	if !ok {
		a.bad, a.badNext = true, true
		return a
	}
	n, _, more := cutInt(rest)
	a.done, a.next, a.badNext = rest == "", n, !more
	return a
}

// held holds what each call answers for b against what was reckoned.
func held(t *testing.T, b string) {
	data := capped(b, "\x01\x01\x01\x01")
	match := func(what string, got, want answer) {
		if got != want {
			t.Fatalf("%s of %s: %#v instead of %#v", what, shown(b), got, want)
		}
	}
	i := frame.NewIn(data)
	n, rest, ok := cutInt(b)
	match("Int", answer{n: i.Int()}.got(i), answer{n: n}.want(rest, ok))
	for _, most := range []int{n - 1, n, n + 1, 0, -1, math.MaxInt} {
		i = frame.NewIn(data)
		n, rest, ok := cutCount(b, most)
		match("Count("+strconv.Itoa(most)+")", answer{n: i.Count(most)}.got(i), answer{n: n}.want(rest, ok))
	}
	i = frame.NewIn(data)
	s, rest, ok := cutText(b)
	match("Text", answer{s: i.Text()}.got(i), answer{s: s}.want(rest, ok))
	i = frame.NewIn(data)
	v, rest, ok := cutValue(b)
	match("Value", answer{v: i.Value()}.got(i), answer{v: v}.want(rest, ok))
	i = frame.NewIn(data)
	u, rest, ok := cutTable(b)
	match("Table", answer{t: tableBytes(i.Table())}.got(i), answer{t: tableBytes(u)}.want(rest, ok))
}

// heldScan holds what Scan answers for b against what was reckoned.
func heldScan(t *testing.T, b string) {
	t.Helper()
	want, wantEnd := cutFrames(b)
	l, end := frame.Scan(capped(b, frameBytes("behind")))
	if got := texts(l); !slices.Equal(got, want) || end != wantEnd {
		t.Fatalf("Scan of %s: %q, %d instead of %q, %d", shown(b), got, end, want, wantEnd)
	}
}

func texts(l [][]byte) []string {
	var s []string
	for _, b := range l {
		s = append(s, string(b))
	}
	return s
}

// shown returns the numbers of the first bytes of s.
func shown(s string) string { return fmt.Sprint([]byte(s[:min(len(s), 60)])) }
