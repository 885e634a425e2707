package relop

import (
	"slices"

	"bywash/api"
	"bywash/schema"
	"bywash/table"
	"bywash/value"
)

// Eval returns the table that p makes of these sources.
func (p Plan) Eval(in []Source) (table.Table, api.Errno) {
	if _, e := p.Type(in); e != api.OK {
		return table.Table{}, e
	}
	return p.eval(in)
}

// eval returns the table of p, which has a schema for these sources.
func (p Plan) eval(in []Source) (table.Table, api.Errno) {
	if p.Kind == kindScan {
		t, _ := find(in, p.Name)
		return t.Copy(), api.OK
	}
	tables := make([]table.Table, 0, len(p.Args))
	schemas := make([]schema.Schema, 0, len(p.Args))
	for _, a := range p.Args {
		t, e := a.eval(in)
		if e != api.OK {
			return table.Table{}, e
		}
		tables = append(tables, t)
		schemas = append(schemas, t.Schema)
	}
	rows, e := p.rows(tables)
	if e != api.OK {
		return table.Table{}, e
	}
	s, _ := p.derive(schemas)
	// Make sorts the rows, and has an error only if they are too many.
	return table.Make(s, rows)
}

// rows returns the rows of p, which is no scan and whose Args have these tables, in any order.
func (p Plan) rows(args []table.Table) ([][]value.Value, api.Errno) {
	switch p.Kind {
	case kindWhere:
		return p.where(args[0])
	case kindKeep:
		return p.keep(args[0])
	case kindJoin, kindLeft:
		return p.join(args[0], args[1]), api.OK
	case kindGroup:
		return p.group(args[0])
	case kindUnion:
		return slices.Concat(args[0].Rows, args[1].Rows), api.OK
	case kindDistinct:
		return distinct(args[0].Rows), api.OK
	}
	return p.first(args[0]), api.OK
}

func (p Plan) where(t table.Table) ([][]value.Value, api.Errno) {
	var rows [][]value.Value
	for _, row := range t.Rows {
		v, e := p.Cond.Eval(t.Schema, row)
		if e != api.OK {
			return nil, e
		}
		if v.True() {
			rows = append(rows, row)
		}
	}
	return rows, api.OK
}

func (p Plan) keep(t table.Table) ([][]value.Value, api.Errno) {
	rows := make([][]value.Value, 0, len(t.Rows))
	for _, row := range t.Rows {
		kept := make([]value.Value, 0, len(p.Exprs))
		for _, x := range p.Exprs {
			v, e := x.Eval(t.Schema, row)
			if e != api.OK {
				return nil, e
			}
			kept = append(kept, v)
		}
		rows = append(rows, kept)
	}
	return rows, api.OK
}

// join returns the rows of a join or left, or, if they are more than a table can have, just as many as show that.
func (p Plan) join(l, r table.Table) [][]value.Value {
	left, right := p.columns(l.Schema, r.Schema)
	partners := groupBy(r.Rows, right)
	alone := make([]value.Value, len(r.Schema))
	var rows [][]value.Value
	for _, row := range l.Rows {
		found := partners.equalTo(row, left)
		if len(found) == 0 && p.Kind == kindLeft {
			found = [][]value.Value{alone}
		}
		for _, other := range found {
			if len(rows) > api.MaxRows {
				return rows
			}
			rows = append(rows, slices.Concat(row, other))
		}
	}
	return rows
}

// columns returns where the columns of the pairs are in l and in r.
// A pair is taken once, however often it is there, as there is no limit to how often.
func (p Plan) columns(l, r schema.Schema) (left, right []int) {
	seen := map[Pair]struct{}{}
	for _, pair := range p.On {
		if _, again := seen[pair]; again {
			continue
		}
		seen[pair] = struct{}{}
		i, _ := l.Find(pair.Left)
		k, _ := r.Find(pair.Right)
		left, right = append(left, i), append(right, k)
	}
	return left, right
}

// distinct returns each of these rows, which are sorted, once.
func distinct(rows [][]value.Value) [][]value.Value {
	return slices.CompactFunc(slices.Clone(rows), slices.Equal[[]value.Value])
}

func (p Plan) first(t table.Table) [][]value.Value {
	at, down := p.order(t.Schema)
	// The rows of a table are in the order of rows, which a stable sort leaves to those that are equal here.
	rows := slices.SortedStableFunc(slices.Values(t.Rows), func(a, b []value.Value) int {
		for i, n := range at {
			c := a[n].Cmp(b[n])
			if c != 0 && down[i] {
				return -c
			}
			if c != 0 {
				return c
			}
		}
		return 0
	})
	return rows[:min(p.Count, len(rows))]
}

// order returns where the columns of By are in s, and whether each goes down.
// A column that is there again no longer decides, and there is no limit to how often it is.
func (p Plan) order(s schema.Schema) (at []int, down []bool) {
	for _, o := range p.By {
		i, _ := s.Find(o.Column)
		if !slices.Contains(at, i) {
			at, down = append(at, i), append(down, o.Down)
		}
	}
	return at, down
}
