package parse_test

import (
	"fmt"
	"math/rand"
	"reflect"
	"testing"

	"bywash/parse"
)

// spread gives each list in v spare capacity, with something in it.
func spread(v reflect.Value) {
	switch v.Kind() {
	case reflect.Struct:
		for i := range v.NumField() {
			spread(v.Field(i))
		}
	case reflect.Slice:
		n := v.Len()
		l := reflect.MakeSlice(v.Type(), 2*n+3, 2*n+3)
		reflect.Copy(l, v)
		for i := n; i < l.Len() && n > 0; i++ {
			l.Index(i).Set(v.Index(i % n))
		}
		v.Set(l.Slice(0, n))
		for i := range n {
			spread(v.Index(i))
		}
	}
}

// spares is the text of what is in the spare capacity of all lists in v.
func spares(v reflect.Value) string {
	var s string
	switch v.Kind() {
	case reflect.Struct:
		for i := range v.NumField() {
			s += spares(v.Field(i))
		}
	case reflect.Slice:
		s += fmt.Sprintf("%+v;", v.Slice(0, v.Cap()).Slice(v.Len(), v.Cap()).Interface())
		for i := range v.Len() {
			s += spares(v.Index(i))
		}
	}
	return s
}

// extent is the memory of a list, with its spare capacity.
type extent struct{ from, to uintptr }

// extents returns the memory of all lists in v.
func extents(v reflect.Value) []extent {
	var l []extent
	switch v.Kind() {
	case reflect.Struct:
		for i := range v.NumField() {
			l = append(l, extents(v.Field(i))...)
		}
	case reflect.Slice:
		if v.Cap() > 0 {
			from := v.Pointer()
			l = append(l, extent{from, from + uintptr(v.Cap())*v.Type().Elem().Size()})
		}
		for i := range v.Len() {
			l = append(l, extents(v.Index(i))...)
		}
	}
	return l
}

// overwrite changes everything in v, and what is in the spare capacity of its lists.
func overwrite(v reflect.Value) {
	switch v.Kind() {
	case reflect.Int:
		v.SetInt(-77)
	case reflect.Bool:
		v.SetBool(!v.Bool())
	case reflect.String:
		v.SetString("changed")
	case reflect.Struct:
		for i := range v.NumField() {
			overwrite(v.Field(i))
		}
	case reflect.Slice:
		for i := range v.Cap() {
			overwrite(v.Slice(0, v.Cap()).Index(i))
		}
	}
}

// apart checks that no two lists in the values share memory.
func apart(t *testing.T, values ...any) {
	t.Helper()
	var l []extent
	for _, v := range values {
		l = append(l, extents(reflect.ValueOf(v))...)
	}
	for i, a := range l {
		for _, b := range l[:i] {
			if a.from < b.to && b.from < a.to {
				t.Fatalf("two lists share memory: %+v", values)
			}
		}
	}
}

// P14.1, P14.2: results are new memory: no two lists of one result or of two results share any, and a result that is changed changes no other one.
func TestNewMemory(t *testing.T) {
	w := writer{rand.New(rand.NewSource(146))}
	for range 300 {
		var tokens []string
		for range 1 + w.Intn(3) {
			_, l := w.def()
			tokens = append(tokens, l...)
		}
		s := w.join(tokens)
		a, _, _ := parse.Parse(s)
		b, _, _ := parse.Parse(s)
		apart(t, a, b)
		before := all(b)
		overwrite(reflect.ValueOf(&a).Elem())
		c, _, _ := parse.Parse(s)
		if all(b) != before || all(c) != before || all(a) == before {
			t.Fatalf("Parse(%q): a result was changed with another one", s)
		}
	}
	for _, rule := range []string{"expr", "query"} {
		for _, s := range samples()[rule] {
			read := func() reflect.Value {
				if rule == "expr" {
					x, _, _ := parse.Expr(s)
					return reflect.ValueOf(&x).Elem()
				}
				p, _, _ := parse.Query(s)
				return reflect.ValueOf(&p).Elem()
			}
			a, b := read(), read()
			apart(t, a.Interface(), b.Interface())
			before := all(b.Interface())
			overwrite(a)
			if all(b.Interface()) != before || all(read().Interface()) != before {
				t.Errorf("%s %q: a result was changed with another one", rule, s)
			}
		}
	}
}
