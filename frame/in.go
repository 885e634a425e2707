package frame

import (
	"bytes"
	"math"
	"slices"

	"bywash/api"
	"bywash/schema"
	"bywash/table"
	"bywash/value"
)

// In is a decoder. Once it is bad, it has nothing left to read.
type In struct {
	rest []byte
	bad  bool
}

// NewIn returns a decoder that reads b.
func NewIn(b []byte) *In { return &In{rest: bytes.Clone(b)} }

func (i *In) fail() { i.rest, i.bad = nil, true }

// take reads n bytes. Their capacity ends with them, so that nothing that is appended to them gets into what is still to be read.
func (i *In) take(n int) []byte {
	if n < 0 || n > len(i.rest) {
		i.fail()
		return nil
	}
	b := i.rest[:n:n]
	i.rest = i.rest[n:]
	return b
}

// Int reads an integer.
func (i *In) Int() int {
	head := i.take(1)
	if i.bad {
		return 0
	}
	count := int(head[0])
	negative := count >= negativeMark
	if negative {
		count -= negativeMark
	}
	n := i.digits(count)
	if negative && !i.bad {
		return -1 - n
	}
	return n
}

// digits reads the bytes of an integer that is not negative.
func (i *In) digits(count int) int {
	if count > intBytes {
		i.fail()
		return 0
	}
	b := i.take(count)
	var n uint64
	for _, c := range slices.Backward(b) {
		n = n<<byteBits | uint64(c)
	}
	if len(b) > 0 && b[len(b)-1] == 0 || n > math.MaxInt {
		i.fail()
		return 0
	}
	return int(n)
}

// Count reads an integer from 0 to most.
func (i *In) Count(most int) int {
	n := i.Int()
	if n < 0 || n > most {
		i.fail()
		return 0
	}
	return n
}

// Text reads a string.
func (i *In) Text() string { return string(i.take(i.Int())) }

// Value reads a valid value.
func (i *In) Value() value.Value {
	v := value.Value{Kind: i.Int()}
	switch v.Kind {
	case kindInt:
		v.Int = i.Int()
	case kindText:
		v.Text = i.Text()
	}
	if i.bad || !v.Right() {
		i.fail()
		return value.Value{}
	}
	return v
}

// Table reads a valid table.
func (i *In) Table() table.Table {
	columns := i.columns()
	t := table.Table{Schema: columns, Rows: i.rows(len(columns))}
	if i.bad || t.Check() != api.OK {
		i.fail()
		return table.Table{}
	}
	return t
}

// columns reads no more columns than a table may have, and stops where the bytes can't hold so many.
func (i *In) columns() schema.Schema {
	var s schema.Schema
	for range i.Count(api.MaxColumns) {
		c := schema.Column{Name: i.Text(), Type: i.Int()}
		if i.bad {
			return nil
		}
		s = append(s, c)
	}
	return s
}

// rows reads no more rows of so many values than a table may have, and stops where the bytes can't hold so many.
func (i *In) rows(width int) [][]value.Value {
	var l [][]value.Value
	for range i.Count(api.MaxRows) {
		row := i.row(width)
		if i.bad {
			return nil
		}
		l = append(l, row)
	}
	return l
}

func (i *In) row(width int) []value.Value {
	row := make([]value.Value, 0, width)
	for range width {
		row = append(row, i.Value())
	}
	return row
}

// Bad reports whether there was something that could not be read.
func (i *In) Bad() bool { return i.bad }

// Done reports whether everything could be read, and was.
func (i *In) Done() bool { return !i.bad && len(i.rest) == 0 }
