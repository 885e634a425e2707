package parse_test

import (
	"slices"
	"strings"
	"testing"

	"bywash/api"
	"bywash/lex"
	"bywash/parse"
)

// What the document asks of errors, reckoned in another way: the grammar is a text, of which all derivations are tried.

// grammar is that of the chapter. `@` stands ahead of what is deeper by 1, and `!` ahead of a word that must not come next.
// P is a number above 0, C a name that a parenthesis follows, and V a name that is not `and`, `or`, `not` or `null`.
// Only the negation of what is no number above 0 is deeper. A `not` where the rule of this name begins is never a call.
const grammar = `
text     = { source | asset | schedule } .
source   = "source" N "(" column { "," column } ")" scheme ";" .
column   = N ( "int" | "text" ) .
scheme   = ( "hourly" | "daily" | "weekly" | "monthly" | "static" ) D ".." D .
asset    = "asset" N scheme "from" input { "," input } "do" query ";" .
input    = N mapping "as" N .
mapping  = "same" | "last" D | "shift" [ "-" ] D | "within" | "all" .
schedule = "schedule" N T "makes" N { "," N } ";" .
query    = part { "|" step } .
part     = N | @ ( "(" query ")" ) .
step     = "where" expr | "keep" expr "as" N { "," expr "as" N } | ( "join" | "left" ) part "on" N "=" N { "," N "=" N } | "group" [ N { "," N } ] ":" [ agg { "," agg } ] | "union" part | "distinct" | "first" D [ "by" order { "," order } ] .
agg      = ( "count" | "sum" | "min" | "max" ) "(" [ N ] ")" "as" N .
order    = N [ "down" ] .
expr     = and { "or" and } .
and      = not { "and" not } .
not      = "not" @ not | ! "not" compare .
compare  = sum [ ( "=" | "!=" | "<" | "<=" | ">" | ">=" ) sum ] .
sum      = product { ( "+" | "-" ) product } .
product  = minus { ( "*" | "/" | "%" ) minus } .
minus    = "-" P | "-" @ minus | primary .
primary  = D | T | "null" | C "(" @ expr { "," @ expr } ")" | V | @ ( "(" expr ")" ) .
`

// node is a piece of the grammar: its op is one of | (any of parts), & (all of parts, one after another), * (a repetition of the first part), ? (an optional part), @ (a deeper part), ! (a word that must not come next), " (a quoted word), or a name.
type node struct {
	op    string
	text  string
	parts []node
}

// rules are the rules of the grammar.
var rules = readRules()

func readRules() map[string]node {
	m := map[string]node{}
	words := strings.Fields(grammar)
	for len(words) > 0 {
		name := words[0]
		m[name], words = readChoice(words[2:])
		words = words[1:]
	}
	return m
}

// readChoice reads alternatives, up to what closes them.
func readChoice(words []string) (node, []string) {
	all, one := node{op: "|"}, node{op: "&"}
	for !slices.Contains([]string{".", ")", "]", "}"}, words[0]) {
		if words[0] == "|" {
			all.parts, one, words = append(all.parts, one), node{op: "&"}, words[1:]
			continue
		}
		var n node
		n, words = readItem(words)
		one.parts = append(one.parts, n)
	}
	all.parts = append(all.parts, one)
	return all, words
}

// readItem reads one piece.
func readItem(words []string) (node, []string) {
	ops := map[string]string{"{": "*", "[": "?", "(": "&"}
	switch w := words[0]; {
	case ops[w] != "":
		n, rest := readChoice(words[1:])
		return node{op: ops[w], parts: []node{n}}, rest[1:]
	case w == "@" || w == "!":
		n, rest := readItem(words[1:])
		return node{op: w, parts: []node{n}}, rest
	case w[0] == '"':
		return node{op: `"`, text: strings.Trim(w, `"`)}, words[1:]
	default:
		return node{op: w}, words[1:]
	}
}

// reader tries all derivations of tokens, and keeps the farthest token that it comes to.
type reader struct {
	tokens []lex.Token
	known  map[state][]int
	far    int
	deep   bool // something that may begin at the farthest token is too deep
}

type state struct {
	rule      string
	at, depth int
}

// ends returns the indices behind the tokens from at on that n may consist of.
func (r *reader) ends(n node, at, depth int) []int {
	switch n.op {
	case "|":
		var l []int
		for _, part := range n.parts {
			l = union(l, r.ends(part, at, depth))
		}
		return l
	case "&":
		l := []int{at}
		for _, part := range n.parts {
			l = r.each(part, l, depth)
		}
		return l
	case "?":
		return union([]int{at}, r.ends(n.parts[0], at, depth))
	case "*":
		l := []int{at}
		for more := l; len(more) > 0; {
			more = r.each(n.parts[0], more, depth)
			l = union(l, more)
		}
		return l
	case "@":
		return r.ends(n.parts[0], at, depth+1)
	case "!":
		if at < len(r.tokens) && matches(n.parts[0], r.tokens, at) {
			return nil
		}
		return []int{at}
	}
	if rule, ok := rules[n.op]; ok {
		return r.rule(rule, state{n.op, at, depth})
	}
	return r.token(n, at, depth)
}

// each returns the indices behind n from any of the indices on.
func (r *reader) each(n node, from []int, depth int) []int {
	var l []int
	for _, at := range from {
		l = union(l, r.ends(n, at, depth))
	}
	return l
}

func union(a, b []int) []int {
	l := slices.Concat(a, b)
	slices.Sort(l)
	return slices.Compact(l)
}

func (r *reader) rule(n node, s state) []int {
	l, ok := r.known[s]
	if !ok {
		l = r.ends(n, s.at, s.depth)
		r.known[s] = l
	}
	return l
}

// token tries one token, which may also be the end.
func (r *reader) token(n node, at, depth int) []int {
	if at > r.far {
		r.far, r.deep = at, false
	}
	if !matches(n, r.tokens, at) {
		return nil
	}
	if depth > 32 {
		r.deep = r.deep || at == r.far
		return nil
	}
	return []int{at + 1}
}

// matches reports whether the token with this index is what n is.
func matches(n node, tokens []lex.Token, at int) bool {
	if at == len(tokens) {
		return n.op == "end"
	}
	t := tokens[at]
	reserved := slices.Contains([]string{"and", "or", "not", "null"}, t.Text)
	call := at+1 < len(tokens) && tokens[at+1].Kind == 4 && tokens[at+1].Text == "("
	switch n.op {
	case `"`:
		return (t.Kind == 1 || t.Kind == 4) && t.Text == n.text
	case "N":
		return t.Kind == 1
	case "C":
		return t.Kind == 1 && call
	case "V":
		return t.Kind == 1 && !call && !reserved
	case "D":
		return t.Kind == 2
	case "P":
		return t.Kind == 2 && t.Int > 0
	case "T":
		return t.Kind == 3
	}
	return false
}

// verdict returns the offset and the error that a text of this rule must have.
func verdict(rule, s string) (int, api.Errno) {
	tokens, at, e := lex.Lex(s)
	if e != api.OK {
		return at, e
	}
	r := &reader{tokens: tokens, known: map[state][]int{}, far: -1}
	n := node{op: "&", parts: []node{{op: rule}, {op: "end"}}}
	if len(r.ends(n, 0, 1)) > 0 {
		return len(s), api.OK
	}
	at = len(s)
	if r.far < len(tokens) {
		at = tokens[r.far].At
	}
	if r.deep {
		return at, api.ErrDeep
	}
	return at, api.ErrWord
}

// answer returns the offset and the error that the call for a rule returns, and whether its result is zero.
func answer(rule, s string) (at int, e api.Errno, none bool) {
	switch rule {
	case "expr":
		x, at, e := parse.Expr(s)
		return at, e, x.Equal(parse.Def{}.Plan.Cond)
	case "query":
		p, at, e := parse.Query(s)
		return at, e, p.Equal(parse.Def{}.Plan)
	}
	l, at, e := parse.Parse(s)
	return at, e, len(l) == 0
}

// agrees holds a call against the grammar.
func agrees(t *testing.T, rule, s string) {
	t.Helper()
	at, e, none := answer(rule, s)
	wantAt, want := verdict(rule, s)
	if at != wantAt || e != want {
		t.Fatalf("%s %q: %d, %d, not %d, %d", rule, s, at, e, wantAt, want)
	}
	if e != api.OK && !none {
		t.Fatalf("%s %q: a result beside the error %d", rule, s, e)
	}
}

// P14.1, P14.2: the reckoning itself, by hand.
func TestReckoning(t *testing.T) {
	for _, c := range []struct {
		rule, s string
		at      int
		e       api.Errno
	}{
		{"text", "", 0, api.OK}, {"text", " # a\n", 5, api.OK}, {"text", "source x (a int) static 0..0;", 29, api.OK}, {"text", "source x (a int) static 0..0", 28, api.ErrWord}, {"text", "source x (a int,) static 0..0;", 16, api.ErrWord}, {"text", "a", 0, api.ErrWord}, {"text", "source source (source int) static 0..0; !", 40, api.ErrToken},
		{"expr", "a", 1, api.OK}, {"expr", "a a", 2, api.ErrWord}, {"expr", "", 0, api.ErrWord}, {"expr", "a = b = c", 6, api.ErrWord}, {"expr", "not not a and b", 15, api.OK}, {"expr", "- not a", 2, api.ErrWord}, {"expr", "and", 0, api.ErrWord}, {"expr", "and(a)", 6, api.OK}, {"expr", "f(a,)", 4, api.ErrWord}, {"expr", "not(a, b)", 5, api.ErrWord}, {"expr", "a + not(a, b)", 13, api.OK},
		{"expr", strings.Repeat("(", 31) + "a" + strings.Repeat(")", 31), 63, api.OK}, {"expr", strings.Repeat("(", 32) + "a" + strings.Repeat(")", 32), 31, api.ErrDeep}, {"expr", strings.Repeat("-", 31) + "a", 32, api.OK}, {"expr", strings.Repeat("-", 32) + "a", 32, api.ErrDeep}, {"expr", strings.Repeat("-", 32) + "1", 33, api.OK}, {"expr", strings.Repeat("-", 32) + "0", 32, api.ErrDeep}, {"expr", strings.Repeat("-", 32) + ")", 32, api.ErrWord}, {"expr", strings.Repeat("-", 32), 32, api.ErrWord},
		{"query", "x", 1, api.OK}, {"query", "x|where a", 9, api.OK}, {"query", "(x)|distinct", 12, api.OK}, {"query", "x|group:", 8, api.OK}, {"query", "x|group a,:", 10, api.ErrWord}, {"query", "x|join (y|distinct) on a=b", 26, api.OK}, {"query", "x|first", 7, api.ErrWord},
	} {
		at, e := verdict(c.rule, c.s)
		if at != c.at || e != c.e {
			t.Errorf("%s %q: %d, %d, not %d, %d", c.rule, c.s, at, e, c.at, c.e)
		}
	}
}
