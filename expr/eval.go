package expr

import (
	"bywash/api"
	"bywash/schema"
	"bywash/value"
)

// comparisons lists the comparisons in the order of the numbers that Compare of layer 1 has for them, from 1 on.
var comparisons = [...]string{"=", "!=", "<", "<=", ">", ">="}

// Eval returns the value of e for a row.
func (e Expr) Eval(s schema.Schema, row []value.Value) (value.Value, api.Errno) {
	if _, errno := e.Type(s); errno != api.OK {
		return value.Value{}, errno
	}
	if !s.Fits(row) {
		return value.Value{}, api.ErrType
	}
	return e.eval(s, row)
}

// eval returns the value of e, which has a type for s, for a row that fits s.
func (e Expr) eval(s schema.Schema, row []value.Value) (value.Value, api.Errno) {
	switch e.Kind {
	case kindColumn:
		i, _ := s.Find(e.Name)
		return row[i], api.OK
	case kindConst:
		return e.Value, api.OK
	}
	first, errno := e.Args[0].eval(s, row)
	if errno != api.OK {
		return value.Value{}, errno
	}
	if len(e.Args) == 1 {
		return e.ofOne(first)
	}
	if v, settled := e.settle(first); settled {
		return v, api.OK
	}
	second, errno := e.next(first).eval(s, row)
	if errno != api.OK {
		return value.Value{}, errno
	}
	return e.ofTwo(first, second)
}

// settle returns the value of e, and true, if the first argument alone decides it, so that no other one may be evaluated.
func (e Expr) settle(first value.Value) (value.Value, bool) {
	switch e.word() {
	case wordAnd:
		return truth(false), !first.True()
	case wordOr:
		return truth(true), first.True()
	case wordEither:
		return first, !isNull(first)
	}
	return value.Value{}, false
}

// next returns the argument that is evaluated after the first one, and last.
func (e Expr) next(first value.Value) Expr {
	if e.word() == wordIf && !first.True() {
		return e.Args[2]
	}
	return e.Args[1]
}

// ofOne returns the value of e, whose only argument has the value v.
func (e Expr) ofOne(v value.Value) (value.Value, api.Errno) {
	switch e.word() {
	case wordNot:
		return truth(!v.True()), api.OK
	case wordIsNull:
		return truth(isNull(v)), api.OK
	case wordLen:
		return length(v), api.OK
	case wordAbs:
		if v.Int >= 0 {
			return v, api.OK
		}
	}
	return value.Arith('-', value.Of(0), v)
}

// ofTwo returns the value of e, for which the arguments with the values a and b were evaluated.
func (e Expr) ofTwo(a, b value.Value) (value.Value, api.Errno) {
	switch e.word() {
	case wordAnd, wordOr:
		return truth(b.True()), api.OK
	case wordEither, wordIf:
		return b, api.OK
	case wordCat:
		return cat(a, b)
	}
	for i, op := range comparisons {
		if op == e.Op {
			return value.Compare(i+1, a, b), api.OK
		}
	}
	return value.Arith(e.Op[0], a, b)
}

func isNull(v value.Value) bool { return v == value.Null() }

func length(v value.Value) value.Value {
	if isNull(v) {
		return v
	}
	return value.Of(len(v.Text))
}

func cat(a, b value.Value) (value.Value, api.Errno) {
	if isNull(a) || isNull(b) {
		return value.Null(), api.OK
	}
	if len(a.Text)+len(b.Text) > api.MaxText {
		return value.Value{}, api.ErrOverflow
	}
	return value.Text(a.Text + b.Text), api.OK
}

func truth(holds bool) value.Value {
	if holds {
		return value.Of(1)
	}
	return value.Of(0)
}
