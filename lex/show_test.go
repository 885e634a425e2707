package lex_test

import (
	"math"
	"math/rand"
	"slices"
	"strconv"
	"strings"
	"testing"

	"bywash/api"
	"bywash/lex"
)

// shows holds what Show returns, wherever the token stands.
func shows(t *testing.T, k lex.Token, want string) {
	t.Helper()
	for _, at := range []int{0, 1, 100, api.MaxSource, -1, math.MaxInt, math.MinInt} {
		k.At = at
		if s := k.Show(); s != want {
			t.Errorf("Show of %v: %q instead of %q", k, s, want)
		}
	}
}

// P13.2: the texts of words and signs.
func TestShowText(t *testing.T) {
	for _, s := range []string{"a", "z", "source", "a_1", "null", "not", "x9_", "a234567890123456"} {
		shows(t, word(s, 0), s)
	}
	for _, s := range all() {
		shows(t, sign(s, 0), s)
	}
}

// P13.2: the texts of numbers, and none of negative ones.
func TestShowNumber(t *testing.T) {
	for n, s := range map[int]string{0: "0", 1: "1", 9: "9", 10: "10", 100: "100", 1 << 31: "2147483648", 1 << 32: "4294967296", math.MaxInt - 1: "9223372036854775806", math.MaxInt: "9223372036854775807"} {
		shows(t, number(n, 0), s)
	}
	for _, n := range []int{-1, -2, -9, -10, -1 << 31, -1 << 32, -1<<32 + 1, math.MinInt + 1, math.MinInt} {
		shows(t, number(n, 0), "")
	}
}

// P13.2: the texts of string literals, and of each byte that may stand in one.
func TestShowLiteral(t *testing.T) {
	for text, s := range map[string]string{
		"": `""`, "a": `"a"`, " ": `" "`, "#": `"#"`, "a b": `"a b"`, "null": `"null"`, "0 2 * * *": `"0 2 * * *"`,
		`"`: `"\""`, `\`: `"\\"`, `\"`: `"\\\""`, `"\`: `"\"\\"`, `a"b`: `"a\"b"`, `a\n`: `"a\\n"`, `""`: `"\"\""`,
		strings.Repeat("a", 64): `"` + strings.Repeat("a", 64) + `"`, strings.Repeat(`"`, 64): `"` + strings.Repeat(`\"`, 64) + `"`, strings.Repeat(`\`, 64): `"` + strings.Repeat(`\\`, 64) + `"`,
	} {
		shows(t, literal(text, 0), s)
		lexes(t, s, literal(text, 0))
	}
	for c := 32; c <= 126; c++ {
		text := char(c)
		want := `"` + text + `"`
		if c == '"' || c == '\\' {
			want = `"\` + text + `"`
		}
		shows(t, literal(text, 0), want)
		lexes(t, want, literal(text, 0))
		lexes(t, literal("a"+text+"b", 0).Show(), literal("a"+text+"b", 0))
		lexes(t, literal(text+text, 0).Show(), literal(text+text, 0))
	}
}

// P1, P13.2: what is no token ends without a panic; what has no kind has no text, and neither has a literal that Lex would refuse.
func TestShowWrong(t *testing.T) {
	for _, kind := range []int{0, 5, 6, -1, -2, 255, 257, 1<<32 + 1, math.MinInt, math.MinInt + 1, math.MaxInt} {
		shows(t, lex.Token{Kind: kind}, "")
		shows(t, lex.Token{Kind: kind, Text: "a", Int: 1}, "")
	}
	for _, s := range []string{"\x00", "\x1f", "a\n", "\x7f", "\x80", "\xff", strings.Repeat("a", 65), strings.Repeat(`"`, 65)} {
		shows(t, literal(s, 0), "")
	}
	for _, s := range []string{"", "A", "\x00", "\xff", "a b", "\n", strings.Repeat("a", 1<<20)} {
		for kind := 1; kind <= 4; kind++ {
			_ = lex.Token{Kind: kind, Text: s, Int: math.MinInt}.Show()
		}
	}
}

// someToken returns any token.
func someToken(r *rand.Rand) lex.Token {
	some := func(bytes string, count int) string {
		b := make([]byte, count)
		for i := range b {
			b[i] = bytes[r.Intn(len(bytes))]
		}
		return string(b)
	}
	const letters = "abcdefghijklmnopqrstuvwxyz"
	switch r.Intn(4) {
	case 0:
		return word(some(letters, 1)+some(letters+"0123456789_", r.Intn(16)), 0)
	case 1:
		return number(r.Intn(math.MaxInt)>>r.Intn(63), 0)
	case 2:
		bytes := make([]byte, 0, 95)
		for c := byte(32); c <= 126; c++ {
			bytes = append(bytes, c)
		}
		return literal(some([]string{string(bytes), `a"\`}[r.Intn(2)], r.Intn(65)), 0)
	}
	return sign(all()[r.Intn(len(all()))], 0)
}

// P13.2: Lex of the texts of tokens, separated by spaces, returns these tokens again.
func TestRoundTrip(t *testing.T) {
	r := rand.New(rand.NewSource(133))
	for range 10000 {
		var texts []string
		var want []lex.Token
		at := 0
		for range r.Intn(20) {
			k := someToken(r)
			k.At = at
			want = append(want, k)
			texts = append(texts, k.Show())
			at += len(k.Show()) + 1
		}
		lexes(t, strings.Join(texts, " "), want...)
	}
}

// P13.2: the tokens of any text are shown as they stand there, so that Lex of them returns them again.
func TestShowAgain(t *testing.T) {
	r := rand.New(rand.NewSource(134))
	for range 20000 {
		l, _, e := lex.Lex(someText(r))
		if e != api.OK {
			continue
		}
		var texts []string
		for i, k := range l {
			texts = append(texts, k.Show())
			l[i].At = 0
		}
		again, _, e := lex.Lex(strings.Join(texts, " "))
		for i := range again {
			again[i].At = 0
		}
		if e != api.OK || !slices.Equal(l, again) {
			t.Fatalf("%v became %v, %d", l, again, e)
		}
	}
}

// P13.3: lines and positions, at newlines and behind them.
func TestLine(t *testing.T) {
	for s, want := range map[string][][2]int{
		"":               {{1, 1}},
		"a":              {{1, 1}, {1, 2}},
		"\n":             {{1, 1}, {2, 1}},
		"\n\n":           {{1, 1}, {2, 1}, {3, 1}},
		"ab\n":           {{1, 1}, {1, 2}, {1, 3}, {2, 1}},
		"ab\nc":          {{1, 1}, {1, 2}, {1, 3}, {2, 1}, {2, 2}},
		"\nab\n\nc\n":    {{1, 1}, {2, 1}, {2, 2}, {2, 3}, {3, 1}, {4, 1}, {4, 2}, {5, 1}},
		"\r\n\t\xc3\xa9": {{1, 1}, {1, 2}, {2, 1}, {2, 2}, {2, 3}, {2, 4}},
		"#\n\"\n\"":      {{1, 1}, {1, 2}, {2, 1}, {2, 2}, {3, 1}, {3, 2}},
	} {
		for at, w := range want {
			if line, column := lex.Line(s, at); line != w[0] || column != w[1] {
				t.Errorf("Line(%q, %d): %d, %d instead of %v", s, at, line, column, w)
			}
		}
		for _, at := range []int{-1, -2, len(s) + 1, len(s) + 2, 1000, -1000, 1 << 31, 1 << 32, 1<<32 + 1, -1 << 32, math.MaxInt, math.MaxInt - 1, math.MinInt, math.MinInt + 1} {
			if line, column := lex.Line(s, at); line != 0 || column != 0 {
				t.Errorf("Line(%q, %d): %d, %d", s, at, line, column)
			}
		}
	}
}

// P13.3: lines of texts of any length, beyond what Lex takes, too.
func TestLineLong(t *testing.T) {
	const n = 1 << 20
	for _, k := range []struct {
		s                string
		at, line, column int
	}{
		{strings.Repeat("\n", n), n, n + 1, 1}, {strings.Repeat("\n", n), n - 1, n, 1}, {strings.Repeat("a", n), n, 1, n + 1}, {strings.Repeat("a", n), n - 1, 1, n}, {strings.Repeat("a\n", n), 2 * n, n + 1, 1}, {strings.Repeat("a\n", n), 2*n - 1, n, 2}, {strings.Repeat("a\n", n), 2*n + 1, 0, 0},
	} {
		if line, column := lex.Line(k.s, k.at); line != k.line || column != k.column {
			t.Errorf("Line(%.4q.., %d): %d, %d", k.s, k.at, line, column)
		}
	}
}

// P13.3: lines at each offset of many texts.
func TestLineModel(t *testing.T) {
	r := rand.New(rand.NewSource(135))
	for range 5000 {
		b := make([]byte, r.Intn(40))
		for i := range b {
			b[i] = "\n\na\r\x00\xff"[r.Intn(6)]
		}
		s := string(b)
		for at := -2; at <= len(s)+2; at++ {
			line, column := lex.Line(s, at)
			if l, c := place(s, at); line != l || column != c {
				t.Fatalf("Line(%q, %d): %d, %d instead of %d, %d", s, at, line, column, l, c)
			}
		}
		// The position of a byte is found again by going through the text.
		if at := r.Intn(len(s) + 1); s != "" {
			line, column := lex.Line(s, at)
			lines := strings.SplitAfter(s, "\n")
			if got := len(strings.Join(lines[:line-1], "")) + column - 1; got != at {
				t.Fatalf("Line(%q, %d): %s", s, at, strconv.Itoa(got))
			}
		}
	}
}
