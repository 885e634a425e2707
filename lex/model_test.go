package lex_test

import (
	"math/big"
	"regexp"
	"slices"
	"strings"
	"testing"

	"bywash/api"
	"bywash/lex"
)

// What the document asks, reckoned in another way: tokens by regular expressions, and lines by cutting the text at its newlines.

var (
	betweenForm = regexp.MustCompile(`\A(?:[ \t\n]|#[^\n]*)*`)
	wordForm    = regexp.MustCompile(`\A[a-z][a-z0-9_]*`)
	numberForm  = regexp.MustCompile(`\A[0-9]+`)
	literalForm = regexp.MustCompile(`\A"((?:[ !#-\[\]-~]|\\["\\]){0,64})"`)
	signForm    = regexp.MustCompile(`\A(?:!=|<=|>=|\.\.|[(),;:|+\-*/%=<>])`)
	zeroForm    = regexp.MustCompile(`\A0[0-9]`)
)

// These are the tokens of the kinds, by their offsets.
func word(text string, at int) lex.Token    { return lex.Token{Kind: 1, Text: text, At: at} }
func number(n, at int) lex.Token            { return lex.Token{Kind: 2, Int: n, At: at} }
func literal(text string, at int) lex.Token { return lex.Token{Kind: 3, Text: text, At: at} }
func sign(text string, at int) lex.Token    { return lex.Token{Kind: 4, Text: text, At: at} }

// first returns the token at the beginning of a text, the number of its bytes, and its error.
func first(s string) (lex.Token, int, api.Errno) {
	if text := wordForm.FindString(s); text != "" && len(text) <= 16 {
		return word(text, 0), len(text), api.OK
	}
	if text := numberForm.FindString(s); text != "" && !zeroForm.MatchString(s) {
		n, _ := new(big.Int).SetString(text, 10)
		if !n.IsInt64() {
			return lex.Token{}, 0, api.ErrOverflow
		}
		return number(int(n.Int64()), 0), len(text), api.OK
	}
	if m := literalForm.FindStringSubmatch(s); m != nil {
		return literal(strings.NewReplacer(`\"`, `"`, `\\`, `\`).Replace(m[1]), 0), len(m[0]), api.OK
	}
	if text := signForm.FindString(s); text != "" {
		return sign(text, 0), len(text), api.OK
	}
	return lex.Token{}, 0, api.ErrToken
}

// tokens returns what Lex must return.
func tokens(s string) ([]lex.Token, int, api.Errno) {
	if len(s) > 16384 {
		return nil, 0, api.ErrMany
	}
	var l []lex.Token
	at := len(betweenForm.FindString(s))
	for at < len(s) {
		t, size, e := first(s[at:])
		if e != api.OK {
			return nil, at, e
		}
		t.At = at
		l = append(l, t)
		at += size
		at += len(betweenForm.FindString(s[at:]))
	}
	return l, len(s), api.OK
}

// place returns what Line must return.
func place(s string, at int) (int, int) {
	if at < 0 || at > len(s) {
		return 0, 0
	}
	lines := strings.Split(s[:at], "\n")
	return len(lines), len(lines[len(lines)-1]) + 1
}

// returns holds what Lex returns of a text.
func returns(t *testing.T, s string, want []lex.Token, wantAt int, wanted api.Errno) {
	t.Helper()
	if l, at, e := lex.Lex(s); !slices.Equal(l, want) || at != wantAt || e != wanted {
		t.Errorf("Lex(%.200q): %.300v, %d, %d instead of %.300v, %d, %d", s, l, at, e, want, wantAt, wanted)
	}
}

// lexes holds that a text has these tokens.
func lexes(t *testing.T, s string, want ...lex.Token) {
	t.Helper()
	returns(t, s, want, len(s), api.OK)
}

// fails holds that a text has this error, whose token begins at this offset.
func fails(t *testing.T, s string, at int, e api.Errno) {
	t.Helper()
	returns(t, s, nil, at, e)
}

// agrees holds what Lex returns of a text against the reckoning, and returns its error.
func agrees(t *testing.T, s string) api.Errno {
	t.Helper()
	l, at, e := tokens(s)
	returns(t, s, l, at, e)
	return e
}

// The reckoning is held against what a person reckons.
func TestReckoning(t *testing.T) {
	for _, k := range []struct {
		s  string
		l  []lex.Token
		at int
		e  api.Errno
	}{
		{"", nil, 0, api.OK},
		{" \t\n#!\n", nil, 6, api.OK},
		{"a<=10#x", []lex.Token{word("a", 0), sign("<=", 1), number(10, 3)}, 7, api.OK},
		{` "a\"\\" ..`, []lex.Token{literal(`a"\`, 1), sign("..", 9)}, 11, api.OK},
		{"ab_9C", nil, 4, api.ErrToken},
		{"1 01", nil, 2, api.ErrToken},
		{"1 9223372036854775808", nil, 2, api.ErrOverflow},
		{`"\a"`, nil, 0, api.ErrToken},
		{`"a` + "\xff" + `"`, nil, 0, api.ErrToken},
		{"#\xff\n\xff", nil, 3, api.ErrToken},
	} {
		if l, at, e := tokens(k.s); !slices.Equal(l, k.l) || at != k.at || e != k.e {
			t.Errorf("%q: %v, %d, %d", k.s, l, at, e)
		}
	}
	for at, want := range [][2]int{{1, 1}, {1, 2}, {2, 1}, {3, 1}, {3, 2}} {
		if line, column := place("a\n\nb", at); line != want[0] || column != want[1] {
			t.Errorf("%d: %d, %d", at, line, column)
		}
	}
}
