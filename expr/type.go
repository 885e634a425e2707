package expr

import (
	"bywash/api"
	"bywash/schema"
	"bywash/value"
)

// The types of expressions. One that is only null has the type any, and fits wherever another one does.
const (
	typeAny  = 0
	typeInt  = 1
	typeText = 2
	// typeSame stands in rules only, for the one type that all Args so marked must have.
	typeSame = 3
)

const (
	wordNot    = "not"
	wordAnd    = "and"
	wordOr     = "or"
	wordLen    = "len"
	wordAbs    = "abs"
	wordIsNull = "isnull"
	wordCat    = "cat"
	wordEither = "either"
	wordIf     = "if"
)

// maxArgs is how many Args any operator or function has at most.
const maxArgs = 3

// rule tells how many Args an operator or a function has, the types that it takes, and the one that it gives.
type rule struct {
	kind  int
	word  string
	count int
	takes [maxArgs]int
	gives int
}

var rules = [...]rule{
	{kindUnary, "-", 1, [maxArgs]int{typeInt}, typeInt},
	{kindUnary, wordNot, 1, [maxArgs]int{typeAny}, typeInt},
	{kindBinary, "+", 2, [maxArgs]int{typeInt, typeInt}, typeInt},
	{kindBinary, "-", 2, [maxArgs]int{typeInt, typeInt}, typeInt},
	{kindBinary, "*", 2, [maxArgs]int{typeInt, typeInt}, typeInt},
	{kindBinary, "/", 2, [maxArgs]int{typeInt, typeInt}, typeInt},
	{kindBinary, "%", 2, [maxArgs]int{typeInt, typeInt}, typeInt},
	{kindBinary, "=", 2, [maxArgs]int{typeSame, typeSame}, typeInt},
	{kindBinary, "!=", 2, [maxArgs]int{typeSame, typeSame}, typeInt},
	{kindBinary, "<", 2, [maxArgs]int{typeSame, typeSame}, typeInt},
	{kindBinary, "<=", 2, [maxArgs]int{typeSame, typeSame}, typeInt},
	{kindBinary, ">", 2, [maxArgs]int{typeSame, typeSame}, typeInt},
	{kindBinary, ">=", 2, [maxArgs]int{typeSame, typeSame}, typeInt},
	{kindBinary, wordAnd, 2, [maxArgs]int{typeAny, typeAny}, typeInt},
	{kindBinary, wordOr, 2, [maxArgs]int{typeAny, typeAny}, typeInt},
	{kindCall, wordLen, 1, [maxArgs]int{typeText}, typeInt},
	{kindCall, wordAbs, 1, [maxArgs]int{typeInt}, typeInt},
	{kindCall, wordIsNull, 1, [maxArgs]int{typeAny}, typeInt},
	{kindCall, wordCat, 2, [maxArgs]int{typeText, typeText}, typeText},
	{kindCall, wordEither, 2, [maxArgs]int{typeSame, typeSame}, typeSame},
	{kindCall, wordIf, 3, [maxArgs]int{typeAny, typeSame, typeSame}, typeSame},
}

// Type returns the type of e: 1 for integers, 2 for strings, 0 if e is only null.
func (e Expr) Type(s schema.Schema) (int, api.Errno) {
	if errno := s.Check(); errno != api.OK {
		return 0, errno
	}
	if e.count(maxSize) > maxSize {
		return 0, api.ErrMany
	}
	return e.typeAt(s, 1)
}

// typeAt returns the type of e, which has this depth, or its first error.
func (e Expr) typeAt(s schema.Schema, depth int) (int, api.Errno) {
	if depth > api.MaxDepth {
		return 0, api.ErrDeep
	}
	if !e.formed() {
		return 0, api.ErrForm
	}
	switch e.Kind {
	case kindColumn:
		return typeOf(s, e.Name)
	case kindConst:
		return e.Value.Kind, api.OK
	}
	var types [maxArgs]int
	for i, a := range e.Args {
		t, errno := a.typeAt(s, depth+1)
		if errno != api.OK {
			return 0, errno
		}
		types[i] = t
	}
	r, _ := e.rule()
	t, fit := r.result(types)
	if !fit {
		return 0, api.ErrType
	}
	return t, api.OK
}

func typeOf(s schema.Schema, name string) (int, api.Errno) {
	i, ok := s.Find(name)
	if !ok {
		return 0, api.ErrName
	}
	return s[i].Type, api.OK
}

// formed reports whether the form of e is valid, whatever is within its Args.
func (e Expr) formed() bool {
	r, ok := e.rule()
	if !ok || len(e.Args) != r.count {
		return false
	}
	if e.Kind == kindConst {
		return e.Name == "" && e.Op == "" && e.Value.Right()
	}
	if e.Kind == kindUnary || e.Kind == kindBinary {
		return e.Name == "" && e.Value == value.Null()
	}
	return e.Op == "" && e.Value == value.Null()
}

// rule returns the rule of e, and whether there is one: columns and constants have the zero rule, for no Args.
func (e Expr) rule() (rule, bool) {
	if e.Kind == kindColumn || e.Kind == kindConst {
		return rule{}, true
	}
	for i := range rules {
		if rules[i].kind == e.Kind && rules[i].word == e.word() {
			return rules[i], true
		}
	}
	return rule{}, false
}

// word returns the operator of an operation, or the name of a call.
func (e Expr) word() string {
	if e.Kind == kindCall {
		return e.Name
	}
	return e.Op
}

// result returns the type that r gives for Args of these types, and whether they fit.
func (r rule) result(types [maxArgs]int) (int, bool) {
	same := typeAny
	for i := range r.count {
		t, want := types[i], r.takes[i]
		if t == typeAny || want == typeAny {
			continue
		}
		if want == typeSame && same == typeAny {
			same = t
		}
		if want == typeSame {
			want = same
		}
		if t != want {
			return 0, false
		}
	}
	if r.gives == typeSame {
		return same, true
	}
	return r.gives, true
}
