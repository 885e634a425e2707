package relop

import (
	"slices"

	"bywash/api"
	"bywash/schema"
	"bywash/table"
)

// A plan that has a result is at most this large and this deep.
const (
	maxSize  = 64
	maxDepth = 16
)

// The type of an expression that is only null, which no column can have, and that of integers.
const (
	typeAny = 0
	typeInt = 1
)

// Type returns the schema of p for these sources.
func (p Plan) Type(in []Source) (schema.Schema, api.Errno) {
	if p.count(maxSize) > maxSize {
		return nil, api.ErrMany
	}
	return p.typeAt(in, 1)
}

// typeAt returns the schema of p, which has this depth, or its first error.
func (p Plan) typeAt(in []Source, depth int) (schema.Schema, api.Errno) {
	if depth > maxDepth {
		return nil, api.ErrDeep
	}
	if !p.formed() {
		return nil, api.ErrForm
	}
	if p.Kind == kindScan {
		return scanned(in, p.Name)
	}
	args := make([]schema.Schema, 0, len(p.Args))
	for _, a := range p.Args {
		s, e := a.typeAt(in, depth+1)
		if e != api.OK {
			return nil, e
		}
		args = append(args, s)
	}
	s, e := p.derive(args)
	if e == api.OK {
		e = s.Check()
	}
	if e != api.OK {
		return nil, e
	}
	return s, api.OK
}

// formed reports whether p has a Kind, and as many Args as a plan of that Kind has.
func (p Plan) formed() bool {
	return p.Kind >= kindScan && p.Kind <= kindFirst && len(p.Args) == argCounts[p.Kind]
}

// find returns the table of the first source with this name, and whether there is one.
func find(in []Source, name string) (table.Table, bool) {
	for _, s := range in {
		if s.Name == name {
			return s.Table, true
		}
	}
	return table.Table{}, false
}

// scanned returns a copy of the schema of a source.
func scanned(in []Source, name string) (schema.Schema, api.Errno) {
	t, ok := find(in, name)
	if !ok {
		return nil, api.ErrName
	}
	if t.Check() != api.OK {
		return nil, api.ErrType
	}
	return slices.Clone(t.Schema), api.OK
}

// derive returns the columns of p, which is no scan and whose Args have these schemas.
// They need not be a valid schema.
func (p Plan) derive(args []schema.Schema) (schema.Schema, api.Errno) {
	switch p.Kind {
	case kindWhere:
		_, e := p.Cond.Type(args[0])
		return args[0], e
	case kindKeep:
		return p.deriveKeep(args[0])
	case kindJoin, kindLeft:
		return p.deriveJoin(args[0], args[1])
	case kindGroup:
		return p.deriveGroup(args[0])
	case kindUnion:
		if !args[0].Equal(args[1]) {
			return nil, api.ErrType
		}
	case kindFirst:
		return args[0], p.checkFirst(args[0])
	}
	return args[0], api.OK
}

func (p Plan) deriveKeep(s schema.Schema) (schema.Schema, api.Errno) {
	if len(p.Names) != len(p.Exprs) {
		return nil, api.ErrForm
	}
	l := make(schema.Schema, 0, len(p.Names))
	for i, x := range p.Exprs {
		t, e := x.Type(s)
		if e != api.OK {
			return nil, e
		}
		l = append(l, schema.Column{Name: p.Names[i], Type: t})
	}
	if slices.Contains(l.Types(), typeAny) {
		return nil, api.ErrType
	}
	return l, api.OK
}

func (p Plan) deriveJoin(l, r schema.Schema) (schema.Schema, api.Errno) {
	if len(p.On) == 0 {
		return nil, api.ErrForm
	}
	for _, pair := range p.On {
		i, inLeft := l.Find(pair.Left)
		k, inRight := r.Find(pair.Right)
		if !inLeft || !inRight {
			return nil, api.ErrName
		}
		if l[i].Type != r[k].Type {
			return nil, api.ErrType
		}
	}
	return slices.Concat(l, r), api.OK
}

func (p Plan) deriveGroup(s schema.Schema) (schema.Schema, api.Errno) {
	l := make(schema.Schema, 0, len(p.Names)+len(p.Aggs))
	for _, name := range p.Names {
		i, ok := s.Find(name)
		if !ok {
			return nil, api.ErrName
		}
		l = append(l, s[i])
	}
	for _, a := range p.Aggs {
		t, e := a.typeOver(s)
		if e != api.OK {
			return nil, e
		}
		l = append(l, schema.Column{Name: a.Name, Type: t})
	}
	return l, api.OK
}

// typeOver returns the type of a for groups of rows with the schema s.
func (a Agg) typeOver(s schema.Schema) (int, api.Errno) {
	if !a.formed() {
		return 0, api.ErrForm
	}
	if a.Column == "" {
		return typeInt, api.OK
	}
	i, ok := s.Find(a.Column)
	if !ok {
		return 0, api.ErrName
	}
	if a.Op == opSum && s[i].Type != typeInt {
		return 0, api.ErrType
	}
	if a.Op == opCount {
		return typeInt, api.OK
	}
	return s[i].Type, api.OK
}

// formed reports whether a has an Op, and a Column unless it may count rows.
func (a Agg) formed() bool {
	switch a.Op {
	case opCount:
		return true
	case opSum, opMin, opMax:
		return a.Column != ""
	}
	return false
}

func (p Plan) checkFirst(s schema.Schema) api.Errno {
	if p.Count < 0 {
		return api.ErrForm
	}
	for _, o := range p.By {
		if _, ok := s.Find(o.Column); !ok {
			return api.ErrName
		}
	}
	return api.OK
}
