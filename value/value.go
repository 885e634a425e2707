// Package value is layer 1: the values of table cells, which are null, integers and strings.
package value

import (
	"cmp"
	"math"
	"strconv"
	"strings"

	"bywash/api"
)

// The kinds stand in the order of values: null, then integers, then strings.
const (
	kindNull = iota
	kindInt
	kindText
)

const nullText = "null"

// Value is null, an integer in Int, or a string in Text, by its Kind.
type Value struct {
	Kind int
	Int  int
	Text string
}

// Null returns null.
func Null() Value { return Value{} }

// Of returns the integer n.
func Of(n int) Value { return Value{Kind: kindInt, Int: n} }

// Text returns the string s, which is a valid value only if Right says so.
func Text(s string) Value { return Value{Kind: kindText, Text: s} }

// Right reports whether v is valid.
func (v Value) Right() bool {
	switch v.Kind {
	case kindNull:
		return v.Int == 0 && v.Text == ""
	case kindInt:
		return v.Text == ""
	case kindText:
		return v.Int == 0 && rightText(v.Text)
	}
	return false
}

func rightText(s string) bool {
	if len(s) > api.MaxText {
		return false
	}
	for i := range len(s) {
		if s[i] < 32 || s[i] > 126 {
			return false
		}
	}
	return true
}

// Cmp returns -1, 0 or 1 if v precedes o, is equal to it, or follows it.
// A valid value has zeros in what its kind does not use, so the first component that differs decides.
func (v Value) Cmp(o Value) int {
	return cmp.Or(
		cmp.Compare(v.Kind, o.Kind),
		cmp.Compare(v.Int, o.Int),
		cmp.Compare(v.Text, o.Text),
	)
}

// True reports whether v is an integer other than 0.
func (v Value) True() bool { return v.Kind == kindInt && v.Int != 0 }

// Show returns the text of v, or the empty string if v is not valid.
func (v Value) Show() string {
	if !v.Right() {
		return ""
	}
	switch v.Kind {
	case kindInt:
		return strconv.Itoa(v.Int)
	case kindText:
		return quote(v.Text)
	}
	return nullText
}

func quote(s string) string {
	var b strings.Builder
	b.WriteByte('"')
	for i := range len(s) {
		if s[i] == '"' || s[i] == '\\' {
			b.WriteByte('\\')
		}
		b.WriteByte(s[i])
	}
	b.WriteByte('"')
	return b.String()
}

// Parse returns the valid value whose text is s, or ErrForm if there is none.
func Parse(s string) (Value, api.Errno) {
	v, ok := read(s)
	// Each value has one text only: what read takes beyond it, such as +1 or "\a", differs from it.
	if !ok || v.Show() != s {
		return Value{}, api.ErrForm
	}
	return v, api.OK
}

// read returns the only value that s could be the text of.
func read(s string) (Value, bool) {
	if s == nullText {
		return Null(), true
	}
	if len(s) >= 2 && s[0] == '"' {
		return Text(unquote(s[1 : len(s)-1])), true
	}
	n, err := strconv.Atoi(s)
	return Of(n), err == nil
}

func unquote(s string) string {
	var b strings.Builder
	for i := 0; i < len(s); i++ {
		if s[i] == '\\' && i+1 < len(s) {
			i++
		}
		b.WriteByte(s[i])
	}
	return b.String()
}

// Arith returns a op b, where op is one of + - * / %.
func Arith(op byte, a, b Value) (Value, api.Errno) {
	if strings.IndexByte("+-*/%", op) < 0 {
		return Value{}, api.ErrForm
	}
	if a.Kind == kindText || b.Kind == kindText {
		return Value{}, api.ErrType
	}
	if a.Kind == kindNull || b.Kind == kindNull {
		return Null(), api.OK
	}
	if (op == '/' || op == '%') && b.Int == 0 {
		return Value{}, api.ErrDivide
	}
	n, ok := reckon(op, a.Int, b.Int)
	if !ok {
		return Value{}, api.ErrOverflow
	}
	return Of(n), api.OK
}

// reckon returns a op b, and whether it is an int; b is not 0 for / and %.
func reckon(op byte, a, b int) (int, bool) {
	switch op {
	case '+':
		n := a + b
		return n, (n > a) == (b > 0)
	case '-':
		n := a - b
		return n, (n < a) == (b > 0)
	case '*':
		return product(a, b)
	case '/':
		return a / b, a != math.MinInt || b != -1
	}
	return a % b, true
}

func product(a, b int) (int, bool) {
	n := a * b
	switch a {
	case 0:
		return 0, true
	case -1:
		// The quotient below would wrap round here, as the product does, and hide it.
		return n, b != math.MinInt
	}
	return n, n/a == b
}

// Compare returns 1 or 0 for whether the comparison op holds, or null if a or b is null or op is none.
// The comparisons are: 1 equal, 2 not equal, 3 less, 4 less or equal, 5 greater, 6 greater or equal.
func Compare(op int, a, b Value) Value {
	if a.Kind == kindNull || b.Kind == kindNull {
		return Null()
	}
	c := a.Cmp(b)
	switch op {
	case 1:
		return truth(c == 0)
	case 2:
		return truth(c != 0)
	case 3:
		return truth(c < 0)
	case 4:
		return truth(c <= 0)
	case 5:
		return truth(c > 0)
	case 6:
		return truth(c >= 0)
	}
	return Null()
}

func truth(holds bool) Value {
	if holds {
		return Of(1)
	}
	return Of(0)
}
