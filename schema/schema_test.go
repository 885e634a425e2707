package schema_test

import (
	"math"
	"slices"
	"strconv"
	"strings"
	"testing"

	"bywash/api"
	"bywash/schema"
	"bywash/value"
)

const (
	letters = "abcdefghijklmnopqrstuvwxyz"
	digits  = "0123456789"
)

var (
	longest = "a" + strings.Repeat("_", api.MaxName-1)
	tooLong = longest + "_"
)

// goodNames lists valid names, all different.
func goodNames() []string {
	return []string{
		"a", "z", "m", "aa", "az", "a0", "z9", "a_", "a__", "a_0", "id", "name", "int", "text", "null", "and", "x1y2",
		longest, strings.Repeat("z", api.MaxName), strings.Repeat("z", api.MaxName-1), "b" + strings.Repeat("9", api.MaxName-1),
	}
}

// badNames lists names that are not valid, all different.
func badNames() []string {
	return []string{
		"", "_", "0", "9", "A", "Z", " ", "_a", "0a", "9a", "Aa", "aA", "aZ", "a ", " a", "a b", "a-", "-a", "a.b", "a,", "a, b", "a(", "a)",
		"a:", "a/", "a`", "a{", "`a", "{a", "a\n", "\na", "a\x00", "a\x7f", "a\x80", "a\xff", "\xff", "\u00e9", "a\u00e9", "\uff41",
		tooLong, strings.Repeat("a", api.MaxName+1), strings.Repeat("a", 1<<16), strings.Repeat("_", api.MaxName),
	}
}

// columns returns n valid columns, all different, of both types in turn.
func columns(n int) schema.Schema {
	var s schema.Schema
	for i := range n {
		s = append(s, schema.Column{Name: "c" + strconv.Itoa(i), Type: 1 + i%2})
	}
	return s
}

// widest returns MaxColumns columns whose names are as long as a name may be.
func widest() schema.Schema {
	s := columns(api.MaxColumns)
	for i := range s {
		s[i].Name += strings.Repeat("_", api.MaxName-len(s[i].Name))
	}
	return s
}

// pool lists columns, valid and invalid ones, some of them with the same name.
func pool() []schema.Column {
	return []schema.Column{
		{Name: "a", Type: 1}, {Name: "a", Type: 2}, {Name: "b", Type: 1}, {Name: "b_9", Type: 2}, {Name: longest, Type: 2},
		{Name: "a", Type: 0}, {Name: "a", Type: 3}, {Name: "b", Type: -1}, {Name: "b", Type: math.MinInt}, {Name: "b", Type: math.MaxInt},
		{Name: "", Type: 1}, {Name: "", Type: 0}, {Name: "A", Type: 1}, {Name: "A", Type: 3}, {Name: tooLong, Type: 2}, {},
	}
}

// schemas lists all schemas of at most three columns of the pool, and some of as many as there may be, and of more.
func schemas() []schema.Schema {
	l := []schema.Schema{nil, {}}
	for _, a := range pool() {
		l = append(l, schema.Schema{a})
		for _, b := range pool() {
			l = append(l, schema.Schema{a, b})
			for _, c := range pool() {
				l = append(l, schema.Schema{a, b, c})
			}
		}
	}
	for n := range api.MaxColumns + 3 {
		l = append(l, columns(n))
		for _, c := range pool() {
			l = append(l, append(columns(n), c), append(schema.Schema{c}, columns(n)...))
		}
	}
	return append(l, widest())
}

func reckonedName(s string) bool {
	return 1 <= len(s) && len(s) <= 16 && strings.Contains(letters, s[:1]) && strings.Trim(s, letters+digits+"_") == ""
}

// reckoned is what the document asks of Check.
func reckoned(s schema.Schema) api.Errno {
	if len(s) < 1 || len(s) > 16 {
		return api.ErrMany
	}
	for i, c := range s {
		switch {
		case !reckonedName(c.Name):
			return api.ErrName
		case c.Type < 1 || c.Type > 2:
			return api.ErrType
		}
		for _, d := range s[:i] {
			if c.Name == d.Name {
				return api.ErrTwice
			}
		}
	}
	return api.OK
}

// P2.1: names.
func TestName(t *testing.T) {
	for _, s := range goodNames() {
		if !schema.Name(s) {
			t.Errorf("Name(%q): false", s)
		}
	}
	for _, s := range badNames() {
		if schema.Name(s) {
			t.Errorf("Name(%.99q): true", s)
		}
	}
	for n := range 3 * api.MaxName {
		if got, want := schema.Name(strings.Repeat("q", n)), 1 <= n && n <= 16; got != want {
			t.Errorf("Name of %d bytes: %v", n, got)
		}
	}
}

// P2.1: names, byte by byte.
func TestNameBytes(t *testing.T) {
	for c := range 256 {
		b := string([]byte{byte(c)})
		first := strings.Contains(letters, b)
		other := strings.Contains(letters+digits+"_", b)
		for _, s := range []string{b, b + "a", b + longest[1:]} {
			if got := schema.Name(s); got != first {
				t.Errorf("Name(%q): %v", s, got)
			}
		}
		for _, s := range []string{"a" + b, "a" + b + "a", longest[:api.MaxName-1] + b, "a" + b + longest[2:]} {
			if got := schema.Name(s); got != other {
				t.Errorf("Name(%q): %v", s, got)
			}
		}
	}
}

// P2.1: Check, case by case.
func TestCheck(t *testing.T) {
	last := api.MaxColumns - 1
	twice, many := columns(api.MaxColumns), columns(api.MaxColumns+1)
	twice[last].Name = twice[0].Name
	manyWrong := append(columns(api.MaxColumns), schema.Column{Name: "c0"})
	wrongMany := append(schema.Schema{{Name: "C"}}, columns(api.MaxColumns)...)
	for _, c := range []struct {
		s schema.Schema
		e api.Errno
	}{
		{nil, api.ErrMany}, {schema.Schema{}, api.ErrMany}, {many, api.ErrMany}, {manyWrong, api.ErrMany}, {wrongMany, api.ErrMany},
		{make(schema.Schema, 1<<16), api.ErrMany},
		{columns(1), api.OK}, {columns(2), api.OK}, {columns(api.MaxColumns), api.OK}, {widest(), api.OK},
		{schema.Schema{{Name: "a", Type: 2}}, api.OK}, {schema.Schema{{Name: longest, Type: 1}}, api.OK},
		{schema.Schema{{Name: tooLong, Type: 1}}, api.ErrName}, {schema.Schema{{Type: 1}}, api.ErrName},
		{schema.Schema{{Name: "a"}}, api.ErrType}, {schema.Schema{{Name: "a", Type: 3}}, api.ErrType},
		{schema.Schema{{Name: "a", Type: -1}}, api.ErrType},
		{schema.Schema{{Name: "a", Type: 1}, {Name: "a", Type: 1}}, api.ErrTwice},
		{schema.Schema{{Name: "a", Type: 1}, {Name: "a", Type: 2}}, api.ErrTwice}, {twice, api.ErrTwice},
		// One column with two faults.
		{schema.Schema{{}}, api.ErrName}, {schema.Schema{{Name: "a", Type: 1}, {Name: "a", Type: 3}}, api.ErrType},
		// Two columns with one fault each.
		{schema.Schema{{Name: "a", Type: 3}, {Name: "A", Type: 1}}, api.ErrType}, {schema.Schema{{Name: "A", Type: 1}, {Name: "a", Type: 3}}, api.ErrName},
		{schema.Schema{{Name: "a", Type: 1}, {Name: "a", Type: 1}, {Name: "A", Type: 1}}, api.ErrTwice},
		{schema.Schema{{Name: "a", Type: 1}, {Name: "a", Type: 1}, {Name: "b", Type: 0}}, api.ErrTwice},
		{schema.Schema{{Name: "a", Type: 1}, {Name: "b", Type: 0}, {Name: "a", Type: 1}}, api.ErrType},
		{schema.Schema{{Name: "A", Type: 1}, {Name: "A", Type: 1}}, api.ErrName},
		{schema.Schema{{Name: "a", Type: 3}, {Name: "a", Type: 1}}, api.ErrType},
	} {
		if e := c.s.Check(); e != c.e {
			t.Errorf("Check of %.99v: %d, want %d", c.s, e, c.e)
		}
	}
}

// P2.1: Check of many schemas, against what the document asks.
func TestCheckAll(t *testing.T) {
	for _, s := range schemas() {
		if e := s.Check(); e != reckoned(s) {
			t.Errorf("Check of %v: %d, want %d", s, e, reckoned(s))
		}
	}
}

// P2.1: the first column with a name.
func TestFind(t *testing.T) {
	s := columns(api.MaxColumns)
	for i, c := range s {
		if k, ok := s.Find(c.Name); k != i || !ok {
			t.Errorf("Find(%q): %d, %v", c.Name, k, ok)
		}
	}
	for _, name := range []string{"", "c", "c16", "C0", "c0 ", " c0", "c00", "c0_", "int", "\x00"} {
		if k, ok := s.Find(name); k != 0 || ok {
			t.Errorf("Find(%q): %d, %v", name, k, ok)
		}
		if k, ok := schema.Schema(nil).Find(name); k != 0 || ok {
			t.Errorf("Find(%q) in no columns: %d, %v", name, k, ok)
		}
	}
	s = schema.Schema{{Name: "a", Type: 1}, {Name: "b", Type: 1}, {Name: "", Type: 7}, {Name: "b", Type: 2}, {Name: "A"}, {Name: "a", Type: 2}}
	for name, i := range map[string]int{"a": 0, "b": 1, "": 2, "A": 4} {
		if k, ok := s.Find(name); k != i || !ok {
			t.Errorf("Find(%q) in %v: %d, %v", name, s, k, ok)
		}
	}
}

// values lists values, valid and invalid ones.
func values() []value.Value {
	text := strings.Repeat("~", api.MaxText)
	return []value.Value{
		value.Null(), value.Of(0), value.Of(-1), value.Of(math.MinInt), value.Of(math.MaxInt), value.Text(""), value.Text("a"),
		value.Text(" "), value.Text(text),
		{Int: 1}, {Text: "a"}, {Kind: 1, Text: "a"}, {Kind: 2, Int: 1}, {Kind: 3}, {Kind: -1}, value.Text(text + "~"), value.Text("\n"),
		value.Text("\x7f"), value.Text("\xff"),
	}
}

// row returns a row that fits columns(n).
func row(n int) []value.Value {
	var l []value.Value
	for i := range n {
		switch i % 4 {
		case 0:
			l = append(l, value.Of(i))
		case 1:
			l = append(l, value.Text(strconv.Itoa(i)))
		default:
			l = append(l, value.Null())
		}
	}
	return l
}

// P2.1: which values fit a column.
func TestFitsValue(t *testing.T) {
	for _, v := range values() {
		for typ := 1; typ <= 2; typ++ {
			want := v.Right() && (v.Kind == 0 || v.Kind == typ)
			if got := (schema.Schema{{Name: "a", Type: typ}}).Fits([]value.Value{v}); got != want {
				t.Errorf("Fits of %#v in a column of type %d: %v", v, typ, got)
			}
			for at := range api.MaxColumns {
				s, l := columns(api.MaxColumns), row(api.MaxColumns)
				s[at].Type, l[at] = typ, v
				if got := s.Fits(l); got != want {
					t.Errorf("Fits of %#v in the column %d of type %d: %v", v, at, typ, got)
				}
			}
		}
	}
}

// P2.1: rows that are too short, or too long.
func TestFitsLength(t *testing.T) {
	for n := range api.MaxColumns + 3 {
		for k := range api.MaxColumns + 4 {
			if got, want := columns(n).Fits(row(k)), n == k && 1 <= n && n <= api.MaxColumns; got != want {
				t.Errorf("Fits of %d values in %d columns: %v", k, n, got)
			}
			if got, want := columns(n).Fits(make([]value.Value, k)), n == k && 1 <= n && n <= api.MaxColumns; got != want {
				t.Errorf("Fits of %d nulls in %d columns: %v", k, n, got)
			}
		}
	}
	for _, s := range []schema.Schema{nil, {}} {
		if s.Fits(nil) || s.Fits([]value.Value{}) || s.Fits(row(1)) {
			t.Errorf("Fits in no columns: true")
		}
	}
}

// P2.1: nothing fits a schema that is not valid.
func TestFitsWrong(t *testing.T) {
	for _, s := range schemas() {
		var l []value.Value
		for _, c := range s {
			l = append(l, []value.Value{value.Null(), value.Of(1), value.Text("a"), value.Null()}[c.Type&3])
		}
		want := reckoned(s) == api.OK
		if got := s.Fits(l); got != want {
			t.Errorf("Fits of %v in %v: %v", l, s, got)
		}
		if got := s.Fits(make([]value.Value, len(s))); got != want {
			t.Errorf("Fits of nulls in %v: %v", s, got)
		}
	}
}

// P2.1: the same columns.
func TestEqual(t *testing.T) {
	ab := schema.Schema{{Name: "a", Type: 1}, {Name: "b", Type: 2}}
	l := []schema.Schema{
		nil, ab, ab[:1], ab[1:], {ab[1], ab[0]}, {ab[0], ab[1], ab[0]}, {ab[0], ab[0]},
		{{Name: "a", Type: 2}, {Name: "b", Type: 2}}, {{Name: "a", Type: 1}, {Name: "b", Type: 1}},
		{{Name: "a", Type: 1}, {Name: "c", Type: 2}}, {{Name: "c", Type: 1}, {Name: "b", Type: 2}},
		{{}}, {{}, {}}, {{Name: "A", Type: 7}}, {{Name: "A", Type: -7}}, {{Type: 7}},
		columns(api.MaxColumns), columns(api.MaxColumns + 1), columns(api.MaxColumns - 1), widest(),
	}
	for i, a := range l {
		for k, b := range l {
			if got := a.Equal(slices.Clone(b)); got != (i == k) {
				t.Errorf("Equal of %v and %v: %v", a, b, got)
			}
		}
	}
	if !schema.Schema(nil).Equal(schema.Schema{}) || !(schema.Schema{}).Equal(nil) {
		t.Errorf("Equal of nil and empty: false")
	}
}

// P2.1: the types, in order.
func TestTypes(t *testing.T) {
	for _, c := range []struct {
		s schema.Schema
		l []int
	}{
		{nil, nil}, {schema.Schema{}, nil}, {columns(1), []int{1}}, {columns(5), []int{1, 2, 1, 2, 1}},
		{schema.Schema{{Name: "a", Type: 2}, {Name: "b", Type: 2}, {Name: "c", Type: 1}}, []int{2, 2, 1}},
		{schema.Schema{{Type: 9}, {Name: "a", Type: -1}, {Name: "a"}}, []int{9, -1, 0}},
	} {
		if l := c.s.Types(); !slices.Equal(l, c.l) {
			t.Errorf("Types of %v: %v", c.s, l)
		}
	}
	if l := columns(api.MaxColumns + 1).Types(); len(l) != api.MaxColumns+1 {
		t.Errorf("Types of many columns: %v", l)
	}
}

// texts returns schemas with their texts, written out.
func texts() map[string]schema.Schema {
	return map[string]schema.Schema{
		"(a int)":                       {{Name: "a", Type: 1}},
		"(a text)":                      {{Name: "a", Type: 2}},
		"(id int, name text)":           {{Name: "id", Type: 1}, {Name: "name", Type: 2}},
		"(int text, text int, a_9 int)": {{Name: "int", Type: 2}, {Name: "text", Type: 1}, {Name: "a_9", Type: 1}},
		"(z int, a int)":                {{Name: "z", Type: 1}, {Name: "a", Type: 1}},
		"(a_______________ text)":       {{Name: longest, Type: 2}},
		"(c0 int, c1 text, c2 int, c3 text, c4 int, c5 text, c6 int, c7 text, c8 int, c9 text, c10 int, c11 text, c12 int, c13 text, c14 int, c15 text)": columns(api.MaxColumns),
	}
}

// P2.2: the text of a schema, and its inverse.
func TestText(t *testing.T) {
	for text, s := range texts() {
		if got := s.Show(); got != text {
			t.Errorf("Show of %v: %q", s, got)
		}
		if got, e := schema.Parse(text); !slices.Equal(got, s) || e != api.OK {
			t.Errorf("Parse(%q): %v, %d", text, got, e)
		}
	}
}

// P2.2: only a valid schema has a text, and that is parsed to it again.
func TestShowAll(t *testing.T) {
	for _, s := range schemas() {
		text := s.Show()
		got, e := schema.Parse(text)
		if reckoned(s) != api.OK {
			if text != "" {
				t.Errorf("Show of %v: %q", s, text)
			}
			continue
		}
		if text == "" || !slices.Equal(got, s) || e != api.OK {
			t.Errorf("Parse(%q): %v, %d", text, got, e)
		}
	}
}

// P2.2: what is no schema's text.
func TestParseWrong(t *testing.T) {
	l := []string{
		"", " ", "(", ")", "()", ")(", "((", "( )", "(,)", "(, )", "( int)", "(a)", "(a )", "(int)", "a int", "(a int", "a int)", "((a int))",
		"[a int]", "{a int}",
		"(a int) ", " (a int)", "(a int)\n", "( a int)", "(a int )", "(a  int)", "(a\tint)", "(a\nint)", "(aint)", "(a int,)", "(a int, )",
		"(, a int)", "(a int,b int)", "(a int,  b int)", "(a int , b int)", "(a int; b int)", "(a int b int)", "(a int, b int", "(a int, b)",
		"(a int, b int))", "(a int), (b int)", "(a int)(b int)",
		"(a Int)", "(a INT)", "(a integer)", "(a in)", "(a ints)", "(a txt)", "(a texts)", "(a string)", "(a null)", "(a 1)", "(a 2)",
		"(a int int)", "(a int text)", "(int a)", "(a, b int)",
		"(A int)", "(_ int)", "(0 int)", "(_a int)", "(a-b int)", "(\"a\" int)", "(a\x00 int)", "(a int\x00)", "(\xe9 int)", "(\u00e9 int)",
		"(" + tooLong + " int)",
		"(a int, a int)", "(a int, a text)", "(a int, b int, a int)", "(a int # )",
		strings.Replace(columns(api.MaxColumns).Show(), ")", ", z int)", 1), strings.Replace(columns(api.MaxColumns).Show(), ")", ", )", 1),
		strings.Replace(columns(api.MaxColumns).Show(), ")", ", z int, y int)", 1),
		strings.Replace(columns(api.MaxColumns).Show(), "c15", "c14", 1), strings.Replace(columns(api.MaxColumns).Show(), "c15", "c0", 1),
		"(" + strings.Repeat("a", 1<<16) + " int)", "(" + strings.Repeat("a int, ", 1<<16) + "b int)", strings.Repeat("(", 1<<16),
		strings.Repeat(" ", 1<<16), "(" + strings.Repeat(", ", 1<<16) + ")",
	}
	for _, s := range badNames() {
		l = append(l, "("+s+" int)", "(a text, "+s+" text)")
	}
	for _, s := range l {
		if got, e := schema.Parse(s); len(got) != 0 || e != api.ErrForm {
			t.Errorf("Parse(%.99q): %v, %d", s, got, e)
		}
	}
}

// P2.2: a text that differs from a schema's by one byte is parsed only if it is another schema's.
func TestParseNear(t *testing.T) {
	check := func(s string) {
		got, e := schema.Parse(s)
		if e == api.OK && got.Show() != s || e != api.OK && (len(got) != 0 || e != api.ErrForm) {
			t.Errorf("Parse(%q): %v, %d", s, got, e)
		}
	}
	for text := range texts() {
		for i := range len(text) + 1 {
			check(text[:i])
			check(text[i:])
			for _, c := range []byte("a0_A(), inttext\n\x00\xff") {
				check(text[:i] + string([]byte{c}) + text[i:])
				if i < len(text) {
					check(text[:i] + string([]byte{c}) + text[i+1:])
				}
			}
			if i < len(text) {
				check(text[:i] + text[i+1:])
				check(text[:i] + text[i:i+1] + text[i:])
			}
		}
	}
}

// P2.2: among all short strings of the parts of a text, Parse answers the texts of schemas, and nothing else.
func TestParseAll(t *testing.T) {
	want := map[string]schema.Schema{}
	for _, s := range schemas() {
		if len(s) <= 2 && reckoned(s) == api.OK {
			want[s.Show()] = s
		}
	}
	parts := []string{"(", ")", ", ", ",", " ", "a", "b", "int", "text"}
	words, found := []string{""}, 0
	for range 6 {
		var next []string
		for _, w := range words {
			for _, p := range parts {
				next = append(next, w+p)
			}
		}
		words = next
		for _, w := range words {
			s, e := schema.Parse(w)
			if _, ok := want[w]; ok {
				found++
			}
			if e == api.OK && s.Show() != w || e == api.ErrForm && want[w] != nil || e != api.OK && e != api.ErrForm {
				t.Fatalf("Parse(%q): %v, %d", w, s, e)
			}
		}
	}
	if found == 0 {
		t.Errorf("no text of a schema among the words")
	}
}

// P2.3: the columns of both, or the error of Check.
func TestJoin(t *testing.T) {
	all := columns(api.MaxColumns + 1)
	for _, c := range []struct {
		a, b schema.Schema
		e    api.Errno
	}{
		{all[:1], all[1:2], api.OK}, {all[1:2], all[:1], api.OK}, {all[:8], all[8:16], api.OK}, {all[:1], all[1:16], api.OK},
		{all[:16], nil, api.OK}, {nil, all[:16], api.OK}, {schema.Schema{}, all[:1], api.OK},
		{nil, nil, api.ErrMany}, {schema.Schema{}, schema.Schema{}, api.ErrMany}, {all[:8], all[8:17], api.ErrMany},
		{all[:16], all[16:17], api.ErrMany}, {all[:16], all[:16], api.ErrMany}, {all, nil, api.ErrMany}, {nil, all, api.ErrMany},
		{all[:1], all[:1], api.ErrTwice}, {all[:3], all[2:4], api.ErrTwice}, {all[:1], schema.Schema{{Name: "c0", Type: 2}}, api.ErrTwice},
		{all[:1], schema.Schema{{Name: "C", Type: 1}}, api.ErrName}, {schema.Schema{{Name: "", Type: 1}}, all[:1], api.ErrName},
		{all[:1], schema.Schema{{Name: "d", Type: 3}}, api.ErrType}, {schema.Schema{{Name: "d"}}, all[:1], api.ErrType},
		{schema.Schema{{Name: "d"}}, nil, api.ErrType},
		{schema.Schema{{Name: "d"}}, schema.Schema{{Name: "D"}}, api.ErrType}, {schema.Schema{{Name: "D"}}, schema.Schema{{Name: "d"}}, api.ErrName},
	} {
		s, e := c.a.Join(c.b)
		var want schema.Schema
		if c.e == api.OK {
			want = append(append(want, c.a...), c.b...)
		}
		if !slices.Equal(s, want) || e != c.e {
			t.Errorf("Join of %v and %v: %v, %d, want %d", c.a, c.b, s, e, c.e)
		}
	}
}

// P2.3: Join of any columns, against Check of the columns of both.
func TestJoinAll(t *testing.T) {
	var l []schema.Schema
	for _, s := range schemas() {
		if len(s) <= 1 || len(s) > 5 {
			l = append(l, s)
		}
	}
	for _, a := range l {
		for _, b := range l {
			want := append(append(schema.Schema{}, a...), b...)
			e := reckoned(want)
			if e != api.OK {
				want = nil
			}
			if got, f := a.Join(b); !slices.Equal(got, want) || f != e {
				t.Fatalf("Join of %v and %v: %v, %d, want %d", a, b, got, f, e)
			}
		}
	}
}

// P2.3: the columns with these names, and where they are.
func TestPick(t *testing.T) {
	s := schema.Schema{{Name: "id", Type: 1}, {Name: "name", Type: 2}, {Name: "x", Type: 2}}
	wrong := schema.Schema{
		{Name: "a", Type: 1}, {Name: "A", Type: 1}, {Name: "b", Type: 3}, {Name: "a", Type: 2}, {Name: "", Type: 0}, {Name: "c", Type: 2},
	}
	for _, c := range []struct {
		s     schema.Schema
		names []string
		at    []int
		e     api.Errno
	}{
		{s, []string{"name"}, []int{1}, api.OK}, {s, []string{"id"}, []int{0}, api.OK},
		{s, []string{"id", "name", "x"}, []int{0, 1, 2}, api.OK}, {s, []string{"x", "id"}, []int{2, 0}, api.OK},
		{s, []string{"x", "name", "id"}, []int{2, 1, 0}, api.OK},
		{s, nil, nil, api.ErrMany}, {s, []string{}, nil, api.ErrMany}, {nil, nil, nil, api.ErrMany},
		{s, []string{"id", "id"}, nil, api.ErrTwice}, {s, []string{"id", "x", "name", "x"}, nil, api.ErrTwice},
		{s, []string{"y"}, nil, api.ErrName}, {s, []string{""}, nil, api.ErrName}, {s, []string{"Id"}, nil, api.ErrName},
		{s, []string{"id", "y"}, nil, api.ErrName}, {s, []string{"y", "id"}, nil, api.ErrName},
		{s, []string{"id", "id", "y"}, nil, api.ErrName}, {nil, []string{"a"}, nil, api.ErrName},
		{schema.Schema{}, []string{""}, nil, api.ErrName},
		// The columns that are not picked need not be valid; those that are must be.
		{wrong, []string{"a", "c"}, []int{0, 5}, api.OK}, {wrong, []string{"c", "a"}, []int{5, 0}, api.OK},
		{wrong, []string{"A"}, nil, api.ErrName}, {wrong, []string{"b"}, nil, api.ErrType}, {wrong, []string{""}, nil, api.ErrName},
		{wrong, []string{"a", "a"}, nil, api.ErrTwice}, {wrong, []string{"b", "A"}, nil, api.ErrType},
		{wrong, []string{"A", "b"}, nil, api.ErrName}, {wrong, []string{"b", "b", "y"}, nil, api.ErrName},
	} {
		checkPick(t, c.s, c.names, c.at, c.e)
	}
}

func checkPick(t *testing.T, s schema.Schema, names []string, at []int, e api.Errno) {
	t.Helper()
	var want schema.Schema
	for _, i := range at {
		want = append(want, s[i])
	}
	if got, l, f := s.Pick(names...); !slices.Equal(got, want) || !slices.Equal(l, at) || f != e {
		t.Errorf("Pick(%q) of %v: %v, %v, %d, want %v, %v, %d", names, s, got, l, f, want, at, e)
	}
}

// P2.3: as many names as there may be, and more.
func TestPickMany(t *testing.T) {
	all := columns(api.MaxColumns + 4)
	var names []string
	var at []int
	for i := range all {
		k := len(all) - 1 - i
		names, at = append(names, all[k].Name), append(at, k)
		if len(names) <= api.MaxColumns {
			checkPick(t, all, names, at, api.OK)
		} else {
			checkPick(t, all, names, nil, api.ErrMany)
		}
	}
	same := strings.Split(strings.Repeat("c1 ", api.MaxColumns)+"c1", " ")
	checkPick(t, all, same, nil, api.ErrMany)
	checkPick(t, all, same[1:], nil, api.ErrTwice)
	checkPick(t, all, append(same, "y"), nil, api.ErrName)
	checkPick(t, make(schema.Schema, 1<<10), make([]string, 1<<10), nil, api.ErrMany)
}

// rows lists rows of valid values, each before those that follow it.
func rows() [][]value.Value {
	v := []value.Value{
		value.Null(), value.Of(math.MinInt), value.Of(-2), value.Of(10), value.Of(math.MaxInt),
		value.Text(""), value.Text("10"), value.Text("9"), value.Text("a"), value.Text("a "), value.Text("aa"), value.Text("b"),
	}
	l := [][]value.Value{{}}
	for _, a := range v {
		l = append(l, []value.Value{a})
		for _, b := range v {
			l = append(l, []value.Value{a, b}, []value.Value{a, b, value.Null()}, []value.Value{a, b, value.Of(0)})
			l = append(l, []value.Value{a, b, value.Of(0), value.Null()}, []value.Value{a, b, value.Text("")})
		}
	}
	return l
}

// P2.4: the order of rows.
func TestCmpRows(t *testing.T) {
	l := rows()
	for i, a := range l {
		for k, b := range l {
			want := 0
			if i < k {
				want = -1
			}
			if i > k {
				want = 1
			}
			if got := schema.CmpRows(a, slices.Clone(b)); got != want {
				t.Errorf("CmpRows of %v and %v: %d", a, b, got)
			}
		}
	}
}

// P2.4: long rows, which differ at any place, and those that are proper prefixes.
func TestCmpRowsLong(t *testing.T) {
	for n := range api.MaxColumns + 2 {
		a := row(n)
		for i := range n {
			b := slices.Clone(a)
			b[i] = value.Text("~")
			for k := i + 1; k < n; k++ {
				b[k] = value.Null()
			}
			if schema.CmpRows(a, b) != -1 || schema.CmpRows(b, a) != 1 || schema.CmpRows(a, b[:i+1]) != -1 {
				t.Errorf("CmpRows of %v and %v", a, b)
			}
			if schema.CmpRows(a[:i], a) != -1 || schema.CmpRows(a, a[:i]) != 1 {
				t.Errorf("CmpRows of %v and its first %d values", a, i)
			}
		}
		if schema.CmpRows(a, row(n)) != 0 {
			t.Errorf("CmpRows of %v and itself", a)
		}
	}
	if schema.CmpRows(nil, nil) != 0 || schema.CmpRows(nil, []value.Value{}) != 0 {
		t.Errorf("CmpRows of two rows without values")
	}
	if schema.CmpRows(nil, row(1)) != -1 || schema.CmpRows(row(1), nil) != 1 {
		t.Errorf("CmpRows of a row without values and another one")
	}
}

// filled fills s and its spare capacity, so that any write to them is seen.
func filled(s schema.Schema) schema.Schema {
	l := make(schema.Schema, len(s), 3*len(s)+40)
	copy(l[:cap(l)], slices.Repeat(schema.Schema{{Name: "spare", Type: 5}}, cap(l)))
	copy(l, s)
	return l
}

// P2.5: arguments, and their spare capacity, are not modified.
func TestArguments(t *testing.T) {
	for _, n := range []int{1, 2, 3, api.MaxColumns, api.MaxColumns + 1} {
		a, b := filled(columns(n)), filled(schema.Schema{{Name: "d", Type: 1}})
		names := slices.Repeat([]string{"spare"}, 40)
		names[0], names[1] = "c1", "c0"
		l := slices.Repeat(row(n), 3)
		wantA, wantB, wantNames, wantL := slices.Clone(a[:cap(a)]), slices.Clone(b[:cap(b)]), slices.Clone(names), slices.Clone(l)
		a.Check()
		a.Find("c1")
		a.Fits(l[:n])
		a.Equal(b)
		a.Types()
		a.Show()
		a.Join(b)
		b.Join(a)
		a.Pick(names[:2]...)
		a.Pick(names[:1]...)
		schema.CmpRows(l[:n], l[n:2*n])
		if !slices.Equal(a[:cap(a)], wantA) || !slices.Equal(b[:cap(b)], wantB) || !slices.Equal(names, wantNames) || !slices.Equal(l, wantL) {
			t.Errorf("arguments of %d columns are modified", n)
		}
	}
}

// scribble overwrites s and its spare capacity.
func scribble(s schema.Schema) {
	s = s[:cap(s)]
	for i := range s {
		s[i] = schema.Column{Name: "scribble", Type: 7}
	}
}

// P2.5: results share no memory with arguments, or with other results, and arguments are not retained.
func TestResults(t *testing.T) {
	all := columns(5)
	for _, c := range []struct{ a, b schema.Schema }{{all[:2], all[2:]}, {all, nil}, {nil, all}, {all, all[:0]}, {all[:0], all}} {
		a, b := filled(c.a), filled(c.b)
		first, _ := a.Join(b)
		second, _ := a.Join(b)
		scribble(first)
		if !slices.Equal(a, c.a) || !slices.Equal(b, c.b) || !slices.Equal(second, all) || a[:cap(a)][len(a)].Name != "spare" {
			t.Errorf("the result of Join of %v and %v shares memory", c.a, c.b)
		}
		scribble(a)
		scribble(b)
		if !slices.Equal(second, all) {
			t.Errorf("Join of %v and %v retains an argument", c.a, c.b)
		}
	}
	for _, names := range [][]string{{"c0"}, {"c0", "c1", "c2", "c3", "c4"}, {"c3", "c2"}} {
		a := filled(all)
		first, at, _ := a.Pick(names...)
		second, again, _ := a.Pick(names...)
		wantS, wantAt := slices.Clone(second), slices.Clone(again)
		scribble(first)
		at = at[:cap(at)]
		for i := range at {
			at[i] = -7
		}
		intact := slices.Equal(a, all)
		scribble(a)
		if !intact || !slices.Equal(second, wantS) || !slices.Equal(again, wantAt) {
			t.Errorf("the result of Pick(%q) shares memory", names)
		}
	}
}

// P2.5: results that are made of no slice, and of a text.
func TestResultsNew(t *testing.T) {
	a := columns(4)
	first, second := a.Types(), a.Types()
	first = first[:cap(first)]
	for i := range first {
		first[i] = -7
	}
	if !slices.Equal(second, []int{1, 2, 1, 2}) || !slices.Equal(a, columns(4)) {
		t.Errorf("the result of Types shares memory: %v, %v", second, a)
	}
	for text, s := range texts() {
		one, _ := schema.Parse(text)
		two, _ := schema.Parse(text)
		scribble(one)
		three, _ := schema.Parse(text)
		if !slices.Equal(two, s) || !slices.Equal(three, s) {
			t.Errorf("the result of Parse(%q) shares memory", text)
		}
	}
}

// P1: every call ends and does not panic, whatever it is given.
func TestEnds(t *testing.T) {
	l := [][]value.Value{nil, values(), {{Kind: 3}}, {{Kind: math.MinInt, Text: "\xff"}}, make([]value.Value, api.MaxColumns+1)}
	for _, s := range append(schemas(), make(schema.Schema, 1<<12)) {
		s.Types()
		s.Equal(nil)
		s.Find(tooLong)
		s.Pick(badNames()...)
		s.Pick(goodNames()...)
		for _, r := range l {
			s.Fits(r)
		}
	}
	for _, a := range l {
		for _, b := range l {
			schema.CmpRows(a, b)
		}
	}
}
