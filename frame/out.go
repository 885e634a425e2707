package frame

import (
	"bytes"
	"math/bits"

	"bywash/table"
	"bywash/value"
)

// The kinds of the values that have something after their kind.
const (
	kindInt  = 1
	kindText = 2
)

// Out is an encoder. Its zero value has no bytes yet.
type Out struct {
	data []byte
}

// Int appends an integer.
func (o *Out) Int(n int) *Out {
	mark := 0
	if n < 0 {
		mark, n = negativeMark, -1-n
	}
	count := (bits.Len64(uint64(n)) + byteBits - 1) / byteBits
	o.data = append(o.data, byte(mark+count))
	for range count {
		o.data = append(o.data, byte(n))
		n >>= byteBits
	}
	return o
}

// Text appends a string.
func (o *Out) Text(s string) *Out {
	o.Int(len(s))
	o.data = append(o.data, s...)
	return o
}

// Value appends a value.
func (o *Out) Value(v value.Value) *Out {
	o.Int(v.Kind)
	switch v.Kind {
	case kindInt:
		o.Int(v.Int)
	case kindText:
		o.Text(v.Text)
	}
	return o
}

// Table appends a table.
func (o *Out) Table(t table.Table) *Out {
	o.Int(len(t.Schema))
	for _, c := range t.Schema {
		o.Text(c.Name).Int(c.Type)
	}
	o.Int(len(t.Rows))
	for _, row := range t.Rows {
		for _, v := range row {
			o.Value(v)
		}
	}
	return o
}

// Bytes returns all that was appended.
func (o *Out) Bytes() []byte { return bytes.Clone(o.data) }
