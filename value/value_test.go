package value_test

import (
	"math"
	"math/big"
	"strconv"
	"strings"
	"testing"

	"bywash/api"
	"bywash/value"
)

var (
	longest = strings.Repeat("z", api.MaxText)
	tooLong = longest + "z"
)

// ordered lists valid values, each before those that follow it.
func ordered() []value.Value {
	l := []value.Value{value.Null()}
	for _, n := range []int{math.MinInt, math.MinInt + 1, -10, -9, -1, 0, 1, 9, 10, math.MaxInt - 1, math.MaxInt} {
		l = append(l, value.Of(n))
	}
	for _, s := range []string{"", " ", "!", "\"", "-1", "0", "10", "9", "A", "AB", "Aa", "B", "\\", "a", "a ", "a b", "aa", "ab", "b", "null", longest[1:], longest, "~"} {
		l = append(l, value.Text(s))
	}
	return l
}

// invalid lists values that are not valid.
func invalid() []value.Value {
	l := []value.Value{
		{Kind: -1}, {Kind: 3}, {Kind: math.MinInt}, {Kind: math.MaxInt},
		{Kind: 3, Int: 1}, {Kind: -1, Text: "a"},
		{Int: 1}, {Int: math.MinInt}, {Text: "a"}, {Text: "\x00"},
		{Kind: 1, Text: "a"}, {Kind: 1, Int: 1, Text: " "},
		{Kind: 2, Int: 1}, {Kind: 2, Int: -1, Text: "a"},
		value.Text(tooLong), value.Text(strings.Repeat("\"", api.MaxText+1)),
	}
	for _, c := range []byte{0, '\n', 31, 127, 128, 255} {
		b := string([]byte{c})
		l = append(l, value.Text(b), value.Text("a"+b), value.Text(b+"a"), value.Text("a"+b+"a"), value.Text(longest[1:]+b))
	}
	return append(l, value.Text("\u00e9"))
}

// P1.1: the constructors.
func TestMake(t *testing.T) {
	if v := value.Null(); v != (value.Value{}) {
		t.Errorf("Null: %#v", v)
	}
	for _, n := range []int{math.MinInt, -1, 0, 1, math.MaxInt} {
		if v := value.Of(n); v != (value.Value{Kind: 1, Int: n}) {
			t.Errorf("Of(%d): %#v", n, v)
		}
	}
	for _, s := range []string{"", "a", "null", "\"\\", "\x00\xff", longest, tooLong} {
		if v := value.Text(s); v != (value.Value{Kind: 2, Text: s}) {
			t.Errorf("Text(%q): %#v", s, v)
		}
	}
}

// P1.1: validity, and the text of what is not valid.
func TestRight(t *testing.T) {
	for _, v := range ordered() {
		if !v.Right() {
			t.Errorf("Right of %#v: false", v)
		}
	}
	for _, v := range invalid() {
		if v.Right() {
			t.Errorf("Right of %#v: true", v)
		}
		if v.Show() != "" {
			t.Errorf("Show of %#v: %q", v, v.Show())
		}
	}
	for c := range 256 {
		for _, s := range []string{string([]byte{byte(c)}), "a" + string([]byte{byte(c)})} {
			if got, want := value.Text(s).Right(), c >= 32 && c <= 126; got != want {
				t.Errorf("Right of the text %q: %v", s, got)
			}
		}
	}
}

func sign(n int) int {
	switch {
	case n < 0:
		return -1
	case n > 0:
		return 1
	}
	return 0
}

// P1.1: the order of values.
func TestCmp(t *testing.T) {
	l := ordered()
	for i, a := range l {
		for k, b := range l {
			if got := a.Cmp(b); got != sign(i-k) {
				t.Errorf("Cmp of %#v and %#v: %d", a, b, got)
			}
		}
	}
}

// P1.1: only integers other than 0 are true.
func TestTrue(t *testing.T) {
	for _, v := range ordered() {
		if got, want := v.True(), v.Kind == 1 && v.Int != 0; got != want {
			t.Errorf("True of %#v: %v", v, got)
		}
	}
	for _, n := range []int{math.MinInt, -1, 1, 2, math.MaxInt} {
		if !value.Of(n).True() {
			t.Errorf("True of %d: false", n)
		}
	}
}

// P1.1: the text of values, and its inverse.
func TestText(t *testing.T) {
	for _, c := range []struct {
		text string
		v    value.Value
	}{
		{"null", value.Null()},
		{"0", value.Of(0)}, {"7", value.Of(7)}, {"-7", value.Of(-7)}, {"10", value.Of(10)}, {"-100", value.Of(-100)},
		{"9223372036854775807", value.Of(math.MaxInt)}, {"-9223372036854775808", value.Of(math.MinInt)},
		{`""`, value.Text("")}, {`"a"`, value.Text("a")}, {`" "`, value.Text(" ")}, {`"~"`, value.Text("~")},
		{`"null"`, value.Text("null")}, {`"0"`, value.Text("0")}, {`"a, b"`, value.Text("a, b")}, {`"'"`, value.Text("'")},
		{`"a\"b"`, value.Text(`a"b`)}, {`"\""`, value.Text(`"`)}, {`"\\"`, value.Text(`\`)}, {`"\\\""`, value.Text(`\"`)},
		{`"\\n"`, value.Text(`\n`)}, {`"\\\\"`, value.Text(`\\`)}, {`"\"\""`, value.Text(`""`)},
		{`"` + longest + `"`, value.Text(longest)},
		{`"` + strings.Repeat(`\"`, api.MaxText) + `"`, value.Text(strings.Repeat(`"`, api.MaxText))},
		{`"` + strings.Repeat(`\\`, api.MaxText) + `"`, value.Text(strings.Repeat(`\`, api.MaxText))},
	} {
		if got := c.v.Show(); got != c.text {
			t.Errorf("Show of %#v: %q", c.v, got)
		}
		if v, e := value.Parse(c.text); v != c.v || e != api.OK {
			t.Errorf("Parse(%q): %#v, %d", c.text, v, e)
		}
	}
	for _, v := range ordered() {
		if w, e := value.Parse(v.Show()); w != v || e != api.OK {
			t.Errorf("Parse(%q): %#v, %d", v.Show(), w, e)
		}
	}
}

// P1.1: what is no value's text.
func TestParseWrong(t *testing.T) {
	l := []string{
		"", " ", "\n", "nul", "nulll", "null ", " null", "Null", "NULL", "nil", "true", "a",
		"-", "+", "-0", "+0", "+1", "00", "01", "-01", "--1", "1-", " 1", "1 ", "1\n", "1,", "1 2", "1_0", "0x1", "0b1", "1.0", "1e3", "\uff11",
		"9223372036854775808", "-9223372036854775809", "18446744073709551616", strings.Repeat("9", 1<<16), "-" + strings.Repeat("0", 1<<16) + "1",
		`"`, `"a`, `a"`, `"\`, `"\"`, `"\\`, `"\\\"`, `"""`, `"a"b"`, `"a" `, ` "a"`, `"a"b`, `""""`, `"\a"`, `"\n"`, `"\ "`, `"a\"`, `'a'`, "`a`", `"'`, `"a'`,
		`"` + tooLong + `"`, `"` + strings.Repeat(`\"`, api.MaxText+1) + `"`, `"` + strings.Repeat("z", 1<<16) + `"`, `"` + strings.Repeat("z", 1<<16), strings.Repeat(`"`, 1<<16),
	}
	for _, c := range []byte{0, '\n', 31, 127, 128, 255} {
		l = append(l, "\""+string([]byte{c})+"\"", "\"a\\"+string([]byte{c})+"\"", string([]byte{c}))
	}
	for _, s := range append(l, "\"\u00e9\"") {
		if v, e := value.Parse(s); v != (value.Value{}) || e != api.ErrForm {
			t.Errorf("Parse(%.99q): %#v, %d", s, v, e)
		}
	}
}

// words lists all strings of at most most bytes of the alphabet.
func words(alphabet string, most int) []string {
	l := []string{""}
	for i := 0; i < len(l) && len(l[i]) < most; i++ {
		for _, c := range alphabet {
			l = append(l, l[i]+string(c))
		}
	}
	return l
}

// P1.1: Parse answers the texts of values, and nothing else, among all short strings.
func TestParseAll(t *testing.T) {
	escape := strings.NewReplacer(`"`, `\"`, `\`, `\\`)
	want := map[string]value.Value{}
	for _, s := range words(`"\a01-`, 4) {
		want[`"`+escape.Replace(s)+`"`] = value.Text(s)
	}
	for n := -11111; n <= 111111; n++ {
		want[strconv.Itoa(n)] = value.Of(n)
	}
	for _, s := range words(`"\a01-`, 6) {
		v, e := value.Parse(s)
		w, ok := want[s]
		if ok && (v != w || e != api.OK) || !ok && (v != value.Value{} || e != api.ErrForm) {
			t.Fatalf("Parse(%q): %#v, %d", s, v, e)
		}
	}
}

// reckoned is what the document asks of op for two integers.
func reckoned(op byte, a, b int) (value.Value, api.Errno) {
	x, y, z := big.NewInt(int64(a)), big.NewInt(int64(b)), new(big.Int)
	if (op == '/' || op == '%') && b == 0 {
		return value.Value{}, api.ErrDivide
	}
	switch op {
	case '+':
		z.Add(x, y)
	case '-':
		z.Sub(x, y)
	case '*':
		z.Mul(x, y)
	case '/':
		z.Quo(x, y)
	case '%':
		z.Rem(x, y)
	}
	if !z.IsInt64() {
		return value.Value{}, api.ErrOverflow
	}
	return value.Value{Kind: 1, Int: int(z.Int64())}, api.OK
}

// P1.2: integers, up to the edges of int.
func TestArith(t *testing.T) {
	l := []int{0, 1, 2, 3, 7, 10, 1 << 31, 1<<31 - 1, 1 << 32, 3037000499, 3037000500, math.MaxInt / 3, math.MaxInt / 2, math.MaxInt/2 + 1, math.MaxInt - 1, math.MaxInt, math.MinInt}
	for _, n := range l {
		l = append(l, -n, -n-1)
	}
	for _, op := range []byte("+-*/%") {
		for _, a := range l {
			for _, b := range l {
				v, e := value.Arith(op, value.Of(a), value.Of(b))
				if w, f := reckoned(op, a, b); v != w || e != f {
					t.Errorf("%d %c %d: %#v, %d, want %#v, %d", a, op, b, v, e, w, f)
				}
			}
		}
	}
}

// P1.2: the document's own words on quotients and remainders, written out.
func TestDivide(t *testing.T) {
	for _, c := range []struct{ a, b, quotient, rest int }{
		{7, 2, 3, 1}, {-7, 2, -3, -1}, {7, -2, -3, 1}, {-7, -2, 3, -1}, {6, 3, 2, 0}, {-1, 2, 0, -1}, {0, 5, 0, 0},
		{math.MinInt, 1, math.MinInt, 0}, {math.MaxInt, -1, -math.MaxInt, 0}, {math.MinInt, math.MaxInt, -1, -1},
	} {
		if v, e := value.Arith('/', value.Of(c.a), value.Of(c.b)); v != value.Of(c.quotient) || e != api.OK {
			t.Errorf("%d / %d: %#v, %d", c.a, c.b, v, e)
		}
		if v, e := value.Arith('%', value.Of(c.a), value.Of(c.b)); v != value.Of(c.rest) || e != api.OK {
			t.Errorf("%d %% %d: %#v, %d", c.a, c.b, v, e)
		}
	}
	if v, e := value.Arith('/', value.Of(math.MinInt), value.Of(-1)); v != (value.Value{}) || e != api.ErrOverflow {
		t.Errorf("the least int / -1: %#v, %d", v, e)
	}
	if v, e := value.Arith('%', value.Of(math.MinInt), value.Of(-1)); v != value.Of(0) || e != api.OK {
		t.Errorf("the least int %% -1: %#v, %d", v, e)
	}
}

// P1.2: the order of errors, by operators and kinds.
func TestArithKinds(t *testing.T) {
	l := ordered()
	for c := range 256 {
		op := byte(c)
		for _, a := range l {
			for _, b := range l {
				v, e := value.Arith(op, a, b)
				w, f := value.Value{}, api.OK
				switch {
				case !strings.Contains("+-*/%", string(rune(c))):
					f = api.ErrForm
				case a.Kind == 2 || b.Kind == 2:
					f = api.ErrType
				case a.Kind == 1 && b.Kind == 1:
					w, f = reckoned(op, a.Int, b.Int)
				}
				if v != w || e != f {
					t.Fatalf("%#v %q %#v: %#v, %d, want %#v, %d", a, op, b, v, e, w, f)
				}
			}
		}
	}
	if v, e := value.Arith('/', value.Null(), value.Of(0)); v != value.Null() || e != api.OK {
		t.Errorf("null / 0: %#v, %d", v, e)
	}
}

// P1.3: the comparisons of all pairs.
func TestCompare(t *testing.T) {
	l := ordered()
	for i, a := range l {
		for k, b := range l {
			for op, holds := range []bool{1: i == k, 2: i != k, 3: i < k, 4: i <= k, 5: i > k, 6: i >= k} {
				want := value.Value{Kind: 1}
				if holds {
					want.Int = 1
				}
				if op == 0 || a.Kind == 0 || b.Kind == 0 {
					want = value.Value{}
				}
				if v := value.Compare(op, a, b); v != want {
					t.Errorf("Compare(%d, %#v, %#v): %#v", op, a, b, v)
				}
			}
			for _, op := range []int{math.MinInt, -1, 0, 7, 8, 256 + 1, math.MaxInt} {
				if v := value.Compare(op, a, b); v != (value.Value{}) {
					t.Errorf("Compare(%d, %#v, %#v): %#v", op, a, b, v)
				}
			}
		}
	}
}

// P1: every call ends and does not panic, also for values that are not valid.
func TestEnds(t *testing.T) {
	l := append(invalid(), ordered()...)
	for _, a := range l {
		a.True()
		value.Parse(a.Text)
		for _, b := range l {
			a.Cmp(b)
			for op := range 256 {
				value.Arith(byte(op), a, b)
			}
			for op := -1; op <= 7; op++ {
				value.Compare(op, a, b)
			}
		}
	}
}
