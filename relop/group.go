package relop

import (
	"math/bits"
	"slices"
	"strings"

	"bywash/api"
	"bywash/schema"
	"bywash/table"
	"bywash/value"
)

// groups is rows by the values that they have in common: places finds a group by the key of these values.
type groups struct {
	places map[string]int
	rows   [][][]value.Value
}

// groupBy returns the groups of the rows with the same values at these indices, in the order of their first rows.
func groupBy(rows [][]value.Value, at []int) groups {
	g := groups{places: map[string]int{}}
	for _, row := range rows {
		k := key(row, at)
		i, ok := g.places[k]
		if !ok {
			i = len(g.rows)
			g.places[k] = i
			g.rows = append(g.rows, nil)
		}
		g.rows[i] = append(g.rows[i], row)
	}
	return g
}

// key returns a text that rows share only if they have the same values at these indices.
// The text of a value tells where it ends, so that no two lists of values have the same key.
func key(row []value.Value, at []int) string {
	var b strings.Builder
	for _, i := range at {
		b.WriteString(row[i].Show())
		b.WriteByte(',')
	}
	return b.String()
}

// equalTo returns the rows whose values are equal to those of row at these indices. Null is equal to nothing.
func (g groups) equalTo(row []value.Value, at []int) [][]value.Value {
	if slices.ContainsFunc(at, func(i int) bool { return isNull(row[i]) }) {
		return nil
	}
	i, ok := g.places[key(row, at)]
	if !ok {
		return nil
	}
	return g.rows[i]
}

func isNull(v value.Value) bool { return v == value.Null() }

func (p Plan) group(t table.Table) ([][]value.Value, api.Errno) {
	var at []int
	for _, name := range p.Names {
		i, _ := t.Schema.Find(name)
		at = append(at, i)
	}
	all := groupBy(t.Rows, at).rows
	if len(p.Names) == 0 {
		// This is one group even if there are no rows.
		all = [][][]value.Value{t.Rows}
	}
	var rows [][]value.Value
	for _, members := range all {
		row := make([]value.Value, 0, len(at)+len(p.Aggs))
		for _, i := range at {
			row = append(row, members[0][i])
		}
		for _, a := range p.Aggs {
			v, e := a.over(t.Schema, members)
			if e != api.OK {
				return nil, e
			}
			row = append(row, v)
		}
		rows = append(rows, row)
	}
	return rows, api.OK
}

// over returns the value of a for a group of rows with the schema s.
func (a Agg) over(s schema.Schema, rows [][]value.Value) (value.Value, api.Errno) {
	if a.Column == "" {
		return value.Of(len(rows)), api.OK
	}
	i, _ := s.Find(a.Column)
	l := present(rows, i)
	if a.Op == opCount {
		return value.Of(len(l)), api.OK
	}
	if len(l) == 0 {
		return value.Null(), api.OK
	}
	switch a.Op {
	case opMin:
		return slices.MinFunc(l, value.Value.Cmp), api.OK
	case opMax:
		return slices.MaxFunc(l, value.Value.Cmp), api.OK
	}
	return sum(l)
}

// present returns the values at this index that are not null.
func present(rows [][]value.Value, at int) []value.Value {
	var l []value.Value
	for _, row := range rows {
		if !isNull(row[at]) {
			l = append(l, row[at])
		}
	}
	return l
}

// sum returns the sum of integers, or ErrOverflow if it is not an int.
// The upper and the lower halves are added apart, as the sum of some of the integers may not be an int though that of all is.
func sum(l []value.Value) (value.Value, api.Errno) {
	const half = bits.UintSize / 2
	const lower = 1<<half - 1
	high, low := 0, 0
	for _, v := range l {
		high += v.Int >> half
		low += v.Int & lower
	}
	high += low >> half
	n := high<<half | low&lower
	if n>>half != high {
		return value.Value{}, api.ErrOverflow
	}
	return value.Of(n), api.OK
}
